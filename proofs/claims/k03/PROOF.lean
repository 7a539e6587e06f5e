import PyProof.Rows.All
import Wide.All
import OpenK.AllK
import HandS.Exc
import HandS.ExcInit
import HandS.ExcField
import HandS.Head0
import HandS.Head1
import HandS.Head2
import HandS.HeadEnd
import HandS.HeadHook1
import HandS.HeadHook2
import PySem.Challenge.RW_truebooks_k03_lots_refused_and_read_back
import HandS.NoneIn
import HandS.OwnEq
import HandS.Property
import HandS.Flow
import HandS.HeadNt
import HandS.Head3
import Wide.FinOn
import HandS.ForMost
import HandS.Wide
import HandS.Walk
import HandS.Defaults
import HandS.ExcIs
import KE.KExcIs
import HandS.ExcValue
import HandS.IsInst
import HandS.TryOnly
import HandS.ExcOwn
import HandS.WordsExc
import HandS.HotCalls
import KE.KMathGC
import HandS.Deep
import PyProof.LongRange
import HandS.DictComp
import HandS.Comp
import HandS.TryMany
import KE.KTryMore
import PyProof.RulesAs
import HandS.Conv
import HandS.Dict
import HandS.Codes
import HandS.Text
import HandS.RaiseMore
import KE.KIntText
import KE.IntTextLaws
import HandS.Iter
import HandS.Star
import HandS.More
set_option Elab.async false
set_option linter.all false
set_option maxRecDepth 100000
set_option maxHeartbeats 8000000
namespace My
open PySem PySem.Spec PyProof.Rows L2
def top (i : Nat) : Stmt := PySem.Challenge.pw_truebooks_k03_lots_refused_and_read_back.main.body.getD i (.Pass ⟨0, 0, 0, 0⟩)
/-- the class at C: its name, its row of bases -/
def clsB (K : PySem.W.Frag) (C : Addr) (nm : Str) (bm : List Value) : Bool := match K.lookup C with
  | some ⟨.type t, _, .cls cd, sl⟩ => decide (t = "type") && (match cd.mro, sl.toList with
    | .ref C' :: r, [_, _, _, _, some (.builtin n), _] => decide (C' = C) && (decide (n = "ValueError.__new__") && (!cd.hasDel && (cd.hasDict && (decide (cd.name = nm) && decide (r = bm)))))
    | _, _ => false)
  | _ => false
def exB (K : PySem.W.Frag) (b : Str) (p : Str × List Str) : Bool :=
  (He.Fa.glo p.1).ok K && (clsB K (He.ga K p.1) p.1 (.ref (He.ga K b) :: He.veBase) && (decide (PySem.W.findIn K (.ref (He.ga K p.1)) "__setattr__" = some (some (.builtin "object.__setattr__"))) &&
  (decide (PySem.W.subIn K (.ref (He.ga K p.1)) (.type "BaseException") = some true) && (PySem.W.keepIn K (.ref (He.ga K p.1)) && (decide (PySem.W.findIn K (.ref (He.ga K p.1)) "__getattribute__" = some (some (.builtin "BaseException.__getattribute__"))) &&
  (decide (PySem.W.findIn K (.ref (He.ga K p.1)) "__getattr__" = some none) && (decide (PySem.W.findIn K (.ref (He.ga K p.1)) "__class__" = some (some (.builtin "object.__class__"))) && (decide (PySem.W.mroIn K (He.ga K p.1) (.type "object") = some true) &&
  ((p.2.all fun f => decide (PySem.W.findIn K (.ref (He.ga K p.1)) f = some none)) && (decide (PySem.W.kitOne K (.ref (He.ga K p.1)) (.ref (He.ga K b)) = some true) && (decide (PySem.W.kitOne K (.ref (He.ga K p.1)) (.type "ValueError") = some true) && (decide (PySem.W.exmOne K (.ref (He.ga K p.1)) (.ref (He.ga K b)) = some true) &&
  (match p.2 with
    | [] => PySem.W.excIn K (He.ga K p.1) He.veBase "ValueError.__new__"
    | _ => decide (PySem.W.findIn K (.ref (He.ga K p.1)) "__init__" = some (some (.ref (He.ma K (He.ga K p.1) "__init__")))) && decide (PySem.W.typeIn K (.ref (He.ma K (He.ga K p.1) "__init__")) = some (.type "function")))))))))))))))
def looseN : List Str := (["_wall", "DIGITS", "MOST_DIGITS", "is_whole", "is_whole_from", "is_sequence", "plain_number", "plain_numbers", "BookError", "BadLot", "TooLong", "BadText", "BadLetter", "BadTest", "FARTHEST"] : List Str) ++ (["MOST_MODULUS", "Lot", "make_lot", "_check_core", "_are_unlike_from", "_lot_of", "_flags", "_places_of", "_least_modulus", "_repeats", "_greatest_wrong", "_least_wrong", "MOST", "MOST_REST", "fits_letter"] : List Str) ++ (["fits_test", "check_letter", "check_test", "LETTER_FORMS", "TEST_FORMS", "write_letter", "write_test", "_written", "_item_of_words", "read_letter", "read_test", "_read_item", "write_lot", "description_of_words", "read_lot"] : List Str) ++ (["_law_mix", "_law_hand", "_law_draw", "_law_as", "_law_turned", "_law_whole", "_law_row_of", "_law_telling_drawn", "_law_has", "_law_parts", "_law_form", "_law_seen", "_law_is_form", "_law_number_odd", "_law_lot_of"] : List Str) ++ (["_law_letter", "_law_test", "_law_refused", "_law_read", "_law_read_small", "_law_spoilt", "_law_line", "_law_refusals", "_law_lines_hold", "_law_small_lines"] : List Str)
def dG (x : Str) (st : Stmt) : He5.DefA := ⟨fun K => He.ga K x, x, x, defArgs st, defBody st, defScope st, [], []⟩
def dM (c m q : Str) (st : Stmt) : He5.DefA := ⟨fun K => He.ma K (He.ga K c) m, m, q, defArgs st, defBody st, defScope st, [], []⟩
def gfns : List He5.DefA := ([dG "_law_hand" (top 53), dG "_law_telling_drawn" (top 59), dG "_law_draw" (top 54), dG "_law_mix" (top 52), dG "_law_refusals" (top 74), dG "_law_parts" (top 61), dG "_law_as" (top 55), dG "_law_number_odd" (top 65), dG "_law_spoilt" (top 72), dG "_law_refused" (top 69)] : List He5.DefA) ++
  ([dG "make_lot" (top 20), dG "_check_core" (top 21), dG "is_whole" (top 4), dG "_are_unlike_from" (top 22), dG "is_whole_from" (top 5), dG "is_sequence" (top 6), dG "_lot_of" (top 23), dG "_flags" (top 24), dG "_least_modulus" (top 26), dG "_repeats" (top 27)] : List He5.DefA) ++
  ([dG "_greatest_wrong" (top 28), dG "_least_wrong" (top 29), dG "_places_of" (top 25), dG "_law_lines_hold" (top 75), dG "_law_form" (top 62), dG "_law_has" (top 60), dG "write_lot" (top 48), dG "_law_lot_of" (top 66), dG "_law_line" (top 73), dG "_law_turned" (top 56)] : List He5.DefA) ++
  ([dG "_law_read" (top 70), dG "read_lot" (top 50), dG "description_of_words" (top 49), dG "plain_numbers" (top 8), dG "plain_number" (top 7), dG "_law_is_form" (top 64), dG "_law_whole" (top 57), dG "_law_row_of" (top 58), dG "_law_seen" (top 63), dG "_law_small_lines" (top 76)] : List He5.DefA) ++
  ([dG "_law_letter" (top 67), dG "_law_test" (top 68), dG "write_letter" (top 40), dG "_written" (top 42), dG "write_test" (top 41), dG "_law_read_small" (top 71), dG "read_letter" (top 44), dG "_read_item" (top 46), dG "_item_of_words" (top 43), dG "check_letter" (top 35)] : List He5.DefA) ++
  ([dG "fits_letter" (top 33), dG "read_test" (top 45), dG "check_test" (top 36), dG "fits_test" (top 34), dG "law" (top 77)] : List He5.DefA)
def mfns : List He5.DefA := [dM "BadLot" "__init__" "BadLot.__init__" (inClass (top 11) 0), dM "TooLong" "__init__" "TooLong.__init__" (inClass (top 12) 0), dM "BadText" "__init__" "BadText.__init__" (inClass (top 13) 0), dM "Lot" "__init__" "Lot.__init__" (inClass (top 19) 0)]
def fns : List He5.DefA := gfns ++ mfns
def gnames : List Str := gfns.map (·.name)
abbrev AlM : Type := Bool × He.AlD
def obsM (b : PySem.W.Frag → Bool) (K : PySem.W.Frag) : AlM := (b K, He5.obsA [] fns K)
def hookM (n : Nat) (b : PySem.W.Frag → Bool) : PySem.W.Hook where
  α := AlM
  obs := fun s => obsM b (He.frG s.heap.get? (He.asD s.heap.get? n))
  val := fun _ => (true, He5.valA fns)
  says := fun _ h => ∃ K : PySem.W.Frag, K.In h ∧ obsM b K = (true, He5.valA fns)
  of := fun _ _ e => ⟨_, He.frG_in, e⟩
  keeps := fun _ _ _ ⟨F, inF, says⟩ k => ⟨F, PySem.W.Frag.In.keeps inF k, says⟩
theorem obsM_eq {n : Nat} {b : PySem.W.Frag → Bool} {g : Addr → Option Obj} {s : Shared} (h : ∀ a, g a = s.heap.get? a) : obsM b (He.frG g (He.asD g n)) = (hookM n b).obs s := by
  have same : g = s.heap.get? := funext h
  rw [same] <;> rfl
def blts : List Str := ["int", "bool", "str", "list", "tuple", "isinstance", "enumerate", "abs", "len", "range", "min", "all", "any", "ValueError", "max"]
mutual
/-- a written thing of the module -/
def datB (K : PySem.W.Frag) : PyData → Value → Bool
  | .none, .none => true
  | .bool b, .bool c => decide (b = c)
  | .int i, .int j _ => decide (i = j)
  | .str x, .str y _ => decide (x = y)
  | .tuple ds, .ref a => (match K.lookup a with
    | some ⟨.type t, _, .seq its _, _⟩ => decide (t = "tuple") && (Nat.ble its.size 1000 && datsB K ds its.toList)
    | _ => false)
  | _, _ => false
def datsB (K : PySem.W.Frag) : List PyData → List Value → Bool
  | [], [] => true
  | d :: ds, v :: vs => datB K d v && datsB K ds vs
  | _, _ => false
end
def lotB (K : PySem.W.Frag) : Bool := (He.Fa.cls "Lot").ok K && ((["low", "high", "inside", "modulus", "ups", "downs"] : List Str).all (fun f => (He.Fa.noat "Lot" f).ok K) && ((He.Fa.mkr "Lot").ok K &&
  (decide (PySem.W.findIn K (.ref (He.ga K "Lot")) "__class__" = some (some (.builtin "object.__class__"))) && (decide (PySem.W.mroIn K (He.ga K "Lot") (.type "object") = some true) && (decide (PySem.W.kitOne K (.ref (He.ga K "Lot")) (.type "str") = some false) && decide (PySem.W.kitOne K (.ref (He.ga K "Lot")) (.ref (He.ga K "Lot")) = some true))))))
def fL (K : PySem.W.Frag) : List Bool := [blts.all fun x => (He.Fa.free x).ok K,
  gnames.all fun x => (He.Fa.glo x).ok K,
  decide (PySem.W.specialIn K (.builtin "object.__class__") "__get__" = some (some (.builtin "getset_descriptor.__get__"))),
  decide (PySem.W.takesIn K (.builtin "object.__class__") = some true),
  (He.Fa.glo "BookError").ok K,
  (He.Fa.int "FARTHEST" 20000).ok K,
  (He.Fa.int "MOST_MODULUS" 10080).ok K,
  (He.Fa.int "MOST" 20).ok K,
  (He.Fa.int "MOST_REST" 6).ok K,
  (He.Fa.int "MOST_DIGITS" 6).ok K,
  (He.Fa.str "DIGITS" "0123456789").ok K,
  (He.Fa.glo "LETTER_FORMS").ok K,
  datB K (.tuple [.tuple [.str "set", .int 1], .tuple [.str "add", .int 1], .tuple [.str "turn", .int 0], .tuple [.str "mod", .int 1]]) (.ref (He.ga K "LETTER_FORMS")),
  (He.Fa.glo "TEST_FORMS").ok K,
  datB K (.tuple [.tuple [.str "below", .int 1], .tuple [.str "is", .int 1], .tuple [.str "rest", .int 2]]) (.ref (He.ga K "TEST_FORMS")),
  exB K "BookError" ("BadLot", ["what"]),
  xfB K (He.ga K "BadLot"),
  decide (PySem.W.exmOne K (.ref (He.ga K "BadLot")) (.ref (He.ga K "BadLot")) = some true),
  exB K "BookError" ("TooLong", ["most"]),
  xfB K (He.ga K "TooLong"),
  decide (PySem.W.exmOne K (.ref (He.ga K "TooLong")) (.ref (He.ga K "TooLong")) = some true),
  exB K "BookError" ("BadText", ["line", "what"]),
  xfB K (He.ga K "BadText"),
  decide (PySem.W.exmOne K (.ref (He.ga K "BadText")) (.ref (He.ga K "BadText")) = some true),
  exB K "BookError" ("BadLetter", []),
  decide (PySem.W.exmOne K (.ref (He.ga K "BadLetter")) (.ref (He.ga K "BadLetter")) = some true),
  exB K "BookError" ("BadTest", []),
  decide (PySem.W.exmOne K (.ref (He.ga K "BadTest")) (.ref (He.ga K "BadTest")) = some true),
  decide (PySem.W.exmOne K (.ref (He.ga K "BadLot")) (.ref (He.ga K "BadText")) = some false),
  decide (PySem.W.kitOne K (.ref (He.ga K "BadLot")) (.ref (He.ga K "BadText")) = some false),
  decide (PySem.W.exmOne K (.ref (He.ga K "BadLetter")) (.ref (He.ga K "BadText")) = some false),
  decide (PySem.W.exmOne K (.ref (He.ga K "BadTest")) (.ref (He.ga K "BadText")) = some false),
  decide (PySem.W.exmOne K (.ref (He.ga K "BadLetter")) (.ref (He.ga K "BadTest")) = some false),
  decide (PySem.W.exmOne K (.ref (He.ga K "BadTest")) (.ref (He.ga K "BadLetter")) = some false),
  decide (PySem.W.kitOne K (.ref (He.ga K "BadLetter")) (.ref (He.ga K "BadLetter")) = some true),
  decide (PySem.W.kitOne K (.ref (He.ga K "BadTest")) (.ref (He.ga K "BadLetter")) = some false),
  lotB K,
  (He.Fa.glo "Lot").ok K]
def facts (K : PySem.W.Frag) : Bool := (fL K).all id
abbrev R : PySem.W.OpenRow := PySem.W.OpenLaw.row PySem.Challenge.rw_truebooks_k03_lots_refused_and_read_back
abbrev hk : PySem.W.Hook := hookM 5 facts
def ob (s : PySem.W.SharedT) : AlM := obsM facts (He.frG (HandSHeadRun.getT s) (He.asD (HandSHeadRun.getT s) 5))
theorem ob_eq (s : PySem.W.SharedT) : ob s = hk.obs s.abs := obsM_eq (HandSHeadRun.getT_eq s)
theorem run (w : World) : HandSHeadRun.RunEqI R (PySem.W.view R.prog [0, 77]) hk ob 12000 looseN w := by
  unfold HandSHeadRun.RunEqI
  kernel_rfl
end My
set_option Elab.async false
set_option linter.all false
set_option maxRecDepth 100000
set_option maxHeartbeats 8000000
/-! common words of the proofs -/
namespace My
open PySem PySem.Spec PyProof.Rows L2
/-- the def at the module's name x keeps its promise -/
def Keeps (CX : CXT) (P : Program) (w : World) (K : PySem.W.Frag) (mg : Str → Option Value) (base : Heap) (x : Str) (k : Nat) (ps : List Str) (sp : Sp) : Prop :=
  ∃ fd, FnOk P w K mg base CX k (He.ga K x) fd ps sp ∧ Binds K fd ps [] ∧ PySem.W.keepIn K (.ref (He.ga K x)) = true ∧ mg x = some (.ref (He.ga K x))
theorem pe_k {X : Cx} {CX : CXT} {k : Nat} {ps : List Str} {sp : Sp} {E : XK} {x : Str} {p pos : Pos} {e : Expr} {es : List Expr} {t : TA} (h : Keeps CX X.prog X.w X.K X.mg X.base x k ps sp) (hr : Room k X.A) (hg : Gl X x) (hx : Passes CX X E)
    (ha : PA X (e :: es) t) (dbg : (x == ("__debug__" : Str)) = false := by decide) (hst : starEach (e :: es) X.env = (false, eval e X.env) :: starEach es X.env := by rfl) (hpl : (backTo pos (starEach es X.env)).any (·.1) = false := by rfl) :
    PE X (.Call (.Name x p) (e :: es) [] pos) (tCall sp [] E t) := by
  obtain ⟨fd, F, b, kp, m⟩ := h
  exact pe_call F hr hg m kp b .nil hx ha dbg hst hpl
/-- a def of the top, as it stands -/
def At (K : PySem.W.Frag) (mg : Str → Option Value) (x : Str) (st : Stmt) : Prop := mg x = some (.ref (He.ga K x)) ∧ ∃ fd, FunD K x x (defArgs st) (defBody st) (defScope st) [] [] (He.ga K x) fd
abbrev bindsBy (st : Stmt) (x : Str) (ps : List Str) : Prop := ∀ (kV doc pm : Value) (an : Option Addr) (cdv ct : Value) (us : List Value), us.length = ps.length → bindArgs (PySem.W.fnOf x x (defArgs st) (defBody st) (defScope st) .none kV doc pm an cdv ct) ⟨us, []⟩ = pure (ps.zip us)
section
variable {CX : CXT} {P : Program} {w : World} {K : PySem.W.Frag} {mg : Str → Option Value} {base : Heap}
theorem keeps_ofX {x : Str} {st : Stmt} {N ps : List Str} {k : Nat} {sp : Sp} (F : At K mg x st) (S : FnScope N ps (defScope st)) (hb : bindsBy st x ps) (len : ∀ vs H Q E, sp vs H Q E → vs.length = ps.length)
    (hbody : ∀ (f : Addr) (cdv : Value) (A : Around) (outer : List Env) (s : Shared) (H : Hp) (vs : List V) (Q : VK) (E : XK), Room k (A.deeper (envOfC x (defScope st) s.heap.objs.size f cdv)) → sp vs H Q E →
      ∃ t, PSs (cxOf CX P w K mg base N x (defScope st) f cdv A outer s H E) (defBody st) t ∧ t { nx := fun _ H' => Q .non H', rt := Q } (start N vs) H) : Keeps CX P w K mg base x (k + 1) ps sp := by
  obtain ⟨m, fd, F⟩ := F
  exact ⟨fd, F.ok S len (hbody _), F.bindsN hb, F.kp, m⟩
theorem keeps_of {x : Str} {st : Stmt} {N ps : List Str} {k : Nat} {sp : Sp} (F : At K mg x st) (S : FnScope N ps (defScope st)) (hb : bindsBy st x ps) (len : ∀ vs H Q E, sp vs H Q E → vs.length = ps.length)
    (hbody : ∀ (f : Addr) (cdv : Value) (A : Around) (outer : List Env) (s : Shared) (H : Hp) (vs : List V) (Q : VK) (E : XK), Room k (A.deeper (envOfC x (defScope st) s.heap.objs.size f cdv)) → sp vs H Q E →
      ∃ t, PSs (cxOf CX0 P w K mg base N x (defScope st) f cdv A outer s H E).nox (defBody st) t ∧ t { nx := fun _ H' => Q .non H', rt := Q } (start N vs) H) : Keeps CX0 P w K mg base x (k + 1) ps sp :=
  keeps_ofX F S hb len fun f cdv A outer s H vs Q E hr h => by
    obtain ⟨t, h1, h2⟩ := hbody f cdv A outer s H vs Q E hr h
    exact ⟨t, h1.nox, h2⟩
end
/-- all but p as it was -/
def But (p : Addr) (H H' : Hp) : Prop := ∀ b o, b ≠ p → H b = some o → H' b = some o
/-- a hand of draws stands at p, its cells at c -/
def HandC (H : Hp) (p c : Addr) : Prop := ∃ (cs : List Int) (at_ rest total : Int), H p = some (.lst [.ref c, .int at_, .int rest, .int total]) ∧ H c = some (.lst (cs.map V.int)) ∧ 0 ≤ at_
local macro_rules | `(tactic| walk_at "lv") => `(tactic| first | exact Or.inl rfl | exact Or.inr rfl)
/-! ### _law_mix -/
def spMix : Sp := fun vs H Q _ => ∃ a b : Int, vs = [.int a, .int b] ∧ ∀ r : Int, Q (.int r) H
abbrev s_mix : Stmt := top 52
abbrev N_mix : List Str := ["_law_number", "_law_turn", "_law_once", "_law_twice"]
theorem sc_mix : FnScope N_mix ["_law_number", "_law_turn"] (defScope s_mix) := ⟨rfl, rfl, rfl, by decide +kernel, rfl, by decide +kernel, by decide +kernel⟩
section
variable {P : Program} {w : World} {K : PySem.W.Frag} {mg : Str → Option Value} {base : Heap}
theorem mod_lt31 {a m : Int} (h : 0 < m) (hm : m < 2 ^ 40) : -(2 ^ 64) < a % m ∧ a % m < 2 ^ 64 := by
  have h1 := Int.emod_nonneg a (b := m) (by omega)
  have h2 := Int.emod_lt_of_pos a h
  omega
theorem kp_mix (F : At K mg "_law_mix" s_mix) (nI : mg "int" = none) : Keeps CX0 P w K mg base "_law_mix" 1 ["_law_number", "_law_turn"] spMix := by
  refine keeps_of F sc_mix (fun _ _ _ _ _ _ us hl => match us, hl with | [_, _], _ => rfl) (fun vs H Q E h => ?_) (fun f cdv A outer s H vs Q E hr h => ?_)
  · obtain ⟨a, b, rfl, _⟩ := h
    rfl
  · obtain ⟨a, b, rfl, k⟩ := h
    refine ⟨_, (pss_cons (ps_set (i := 2) sc_mix.nd rfl (by walk_at "lv") (pe_op op_mod (pe_callTy call_int1 (by rfl) nI boot_int (pa_cons (pe_op op_add (pe_op op_add (pe_op op_mul (pv 0) pe_int) (pe_op op_mul (pv 1) pe_int)) pe_int) pa_nil)) pe_int))
        (pss_cons (ps_set (i := 3) sc_mix.nd rfl (by walk_at "lv") (pe_op op_mod (pe_callTy call_int1 (by rfl) nI boot_int (pa_cons (pe_op op_add (pe_op op_add (pe_op op_mul (pv 2) (pv 2)) (pe_op op_mul (pe_op op_fdiv (pv 2) pe_int) pe_int)) (pe_op op_mul (pv 1) pe_int)) pa_nil)) pe_int))
        (pss_one (ps_ret (pe_op op_fdiv (pe_op op_mod (pe_callTy call_int1 (by rfl) nI boot_int (pa_cons (pe_op op_add (pe_op op_fdiv (pe_op op_mul (pv 3) (pv 3)) pe_int) (pv 2)) pa_nil)) pe_int) pe_int))))), ?_⟩
    refine ⟨_, rfl, _, _, rfl, rfl, .inr ⟨by decide, by decide⟩, _, rfl, _, _, rfl, rfl, .inr ⟨by decide, by decide⟩, _, _, rfl, rfl, _, _, rfl, rfl, .inl ⟨_, rfl, _, _, rfl, rfl, (by show (0 : Int) < _; decide), ?_⟩⟩
    refine ⟨_, rfl, _, rfl, _, _, rfl, rfl, .inl (mod_lt31 (by decide) (by decide)), _, rfl, _, _, rfl, rfl, ⟨by decide, by decide⟩, _, _, rfl, rfl, .inr ⟨by decide, by decide⟩, _, _, rfl, rfl, _, rfl, _, _, rfl, rfl, .inr ⟨by decide, by decide⟩, _, _, rfl, rfl, .inl ⟨_, rfl, _, _, rfl, rfl, (by show (0 : Int) < _; decide), ?_⟩⟩
    refine ⟨_, rfl, _, rfl, _, _, rfl, rfl, .inl (mod_lt31 (by decide) (by decide)), _, _, rfl, rfl, ⟨by decide, by decide⟩, _, rfl, _, _, rfl, rfl, .inl ⟨_, rfl, _, _, rfl, rfl, (by show (0 : Int) < _; decide), _, _, rfl, rfl, ⟨by decide, by decide⟩, k _⟩⟩
/-! ### _law_hand -/
def spHand (K : PySem.W.Frag) : Sp := fun vs H Q _ => ∃ (a : Addr) (ns : List Int), vs = [.ref a] ∧ SqL K H a (ns.map V.int) ∧ ns.length ≤ 63 ∧ ∀ p c H', H p = none → H c = none → HandC H' p c → Same H H' → Q (.ref p) H'
abbrev s_hand : Stmt := top 53
abbrev N_hand : List Str := ["_law_script", "_law_total", "_law_at", "_law_cell"]
theorem sc_hand : FnScope N_hand ["_law_script"] (defScope s_hand) := ⟨rfl, rfl, rfl, by decide +kernel, rfl, by decide +kernel, by decide +kernel⟩
theorem int_at {ns : List Int} {i : Nat} {x : V} (h : (ns.map V.int)[i]? = some x) : ∃ z, ns[i]? = some z ∧ x = .int z := by
  rw [List.getElem?_map] at h
  cases e : ns[i]? with
  | none =>
    rw [e] at h
    cases h
  | some z =>
    rw [e] at h
    exact ⟨z, rfl, (Option.some.inj h).symm⟩
theorem kp_hand (F : At K mg "_law_hand" s_hand) (nI : mg "int" = none) (nE : mg "enumerate" = none) (nA : mg "abs" = none) : Keeps CX0 P w K mg base "_law_hand" 1 ["_law_script"] (spHand K) := by
  refine keeps_of F sc_hand (fun _ _ _ _ _ _ us hl => match us, hl with | [_], _ => rfl) (fun vs H Q E h => ?_) (fun f cdv A outer s H vs Q E hr h => ?_)
  · obtain ⟨a, ns, rfl, _⟩ := h
    rfl
  · obtain ⟨a, ns, rfl, hS, hlen, k⟩ := h
    refine ⟨_, (pss_cons (ps_set (i := 1) sc_hand.nd rfl (by walk_at "lv") pe_int)
        (pss_cons (ps_for PassesOwn.never rfl (pi_enum (by rfl) nE (pa_cons (pv 0) pa_nil)) (pg_tup (by rfl) (pgs_cons (pg_name (i := 2) sc_hand.nd rfl (by walk_at "lv")) (pgs_cons (pg_name (i := 3) sc_hand.nd rfl (by walk_at "lv")) pgs_nil))) (pss_one (ps_set (i := 1) sc_hand.nd rfl (by walk_at "lv") (pe_op op_mod (pe_callTy call_int1 (by rfl) nI boot_int (pa_cons (pe_op op_add (pe_op op_mul (pv 1) pe_int) (pe_op op_mul (pe_callTy call_int1 (by rfl) nI boot_int (pa_cons (pv 3) pa_nil)) (pe_op op_add (pe_op op_mul pe_int (pv 2)) pe_int))) pa_nil)) pe_int))))
        (pss_one (ps_ret (pe_lst (pa_cons (pe_lc (own := [("_law_cell", 3)]) (g := gName 3) (tt := tYes) rfl sc_hand.nd (pi_list (pv 0)) (blkOk_by (N := N_hand) (sc := defScope s_hand) (by decide +kernel)) (fun _ _ _ _ _ => (pg_name (i := 3) sc_hand.nd rfl (by walk_at "lv"))) (fun _ _ _ _ _ => pts_nil) (fun _ _ _ _ _ => (pe_callB call_abs (by rfl) nA boot_abs (pa_cons (pe_callTy call_int1 (by rfl) nI boot_int (pa_cons (pv 3) pa_nil)) pa_nil)))) (pa_cons pe_int (pa_cons pe_int (pa_cons (pv 1) pa_nil))))))))), ?_⟩
    refine ⟨_, rfl, a, _, rfl, hS, for_it walk_enum (fun i σ H2 => ∃ (t : Int) (x y : Option V), σ = [some (.ref a), some (.int t), x, y] ∧ Same H H2) ⟨17, none, none, rfl, Same.refl H⟩ (fun i σ H2 _ ⟨_, _, _, _, s2⟩ => s2.seq hS) ?_ ?_⟩
    · rintro i v σ H2 H3 hi ⟨t, x, y, rfl, s2⟩ ⟨T, u, z, rfl, nT, rfl, e1, e2⟩
      obtain ⟨n, hn, rfl⟩ := int_at e2
      cases Option.some.inj e1
      have hi63 : i < 63 := by
        rw [List.length_map] at hi
        omega
      have s3 : Same H (upd H2 T (.tup [V.int (i : Nat), V.int n])) := fun b o e => by
        rw [upd_ne (ne_of_none (s2 b o e) nT)]
        exact s2 b o e
      refine ⟨T, _, rfl, SqT.of upd_same, rfl, _, _, rfl, _, _, rfl, rfl, ?_⟩
      refine ⟨_, rfl, _, _, rfl, rfl, .inr ⟨by decide, by decide⟩, _, rfl, .inl ⟨_, rfl, _, rfl, _, _, rfl, rfl, .inl ⟨by decide, by decide⟩, _, _, rfl, rfl, _, _, rfl, rfl, .inr ⟨by omega, by omega⟩, _, _, rfl, rfl, .inl ⟨_, rfl, _, _, rfl, rfl, (by show (0 : Int) < _; decide), ?_⟩⟩⟩
      exact ⟨_, _, _, rfl, s3⟩
    · rintro σ H2 ⟨t, x, y, rfl, s2⟩
      refine ⟨_, rfl, a, rfl, ⟨_, s2.seq hS⟩, fun D hD => ?_⟩
      refine lc_list (K := K) (a := a) (xs := ns.map V.int) (fun i H3 => ∃ cs : List Int, H3 D = some (.lst (cs.map V.int)) ∧ cs.length = i ∧ Same H2 H3) ⟨[], upd_same, rfl, fun b o e => by rw [upd_ne (ne_of_none e hD)]; exact e⟩ (fun i H3 _ ⟨_, _, _, s3⟩ => s3.seq (s2.seq hS)) ?_ ?_
      · rintro i v H3 hi ⟨cs, hc, hl, s3⟩
        obtain ⟨n, hn, rfl⟩ := int_at hi
        have hi63 : i < 63 := by
          have q := (List.getElem?_eq_some_iff.mp hn).1
          omega
        refine ⟨rfl, _, rfl, .inl ⟨_, rfl, _, rfl, cs.map V.int, hc, small1000 (by rw [List.length_map]; omega), cs ++ [if n < 0 then -n else n], ?_, by rw [List.length_append, hl]; rfl, ?_⟩⟩
        · rw [List.map_append]
          exact upd_same
        · intro b o e
          rw [upd_ne (ne_of_none e hD)]
          exact s3 b o e
      · rintro H3 ⟨cs, hc, hl, s3⟩
        refine ⟨_, rfl, (by show 4 ≤ sizeLine; decide), fun p hp => ?_⟩
        refine k p D _ ((s2.trans s3).free hp) (s2.free hD) ⟨cs, 0, 0, t, upd_same, ?_, Int.le_refl 0⟩ fun b o e => ?_
        · rw [upd_ne (ne_of_none hc hp)]
          exact hc
        · have e2 := s3 b o (s2 b o e)
          rw [upd_ne (ne_of_none e2 hp)]
          exact e2
/-! ### _law_draw -/
def spDraw : Sp := fun vs H Q _ => ∃ (p c : Addr) (m : Int), vs = [.ref p, .int m] ∧ HandC H p c ∧ (0 < m ∧ m.natAbs.log2 < 9000) ∧ ∀ (r : Int) H', 0 ≤ r → r < m → HandC H' p c → But p H H' → Q (.int r) H'
abbrev s_draw : Stmt := top 54
abbrev N_draw : List Str := ["_law_hand_here", "_law_many", "_law_cell", "_law_rest"]
theorem sc_draw : FnScope N_draw ["_law_hand_here", "_law_many"] (defScope s_draw) := ⟨rfl, rfl, rfl, by decide +kernel, rfl, by decide +kernel, by decide +kernel⟩
theorem atI_of {α : Type} {xs : List α} {i : Int} (h0 : 0 ≤ i) (h1 : i < xs.length) : ∃ v, xs[i.toNat]? = some v ∧ atI xs i = some v := by
  have e : xs[i.toNat]? = some (xs[i.toNat]'(by omega)) := List.getElem?_eq_getElem _
  have e2 : ((i.toNat : Nat) : Int) = i := by omega
  refine ⟨_, e, ?_⟩
  have q := atI_nat e
  rw [e2] at q
  exact q
theorem But.upd {p : Addr} {H H' : Hp} {o : HO} (h : But p H H') : But p H (upd H' p o) := fun b u hb e => by
  rw [upd_ne hb]
  exact h b u hb e
theorem But.refl (p : Addr) (H : Hp) : But p H H := fun _ _ _ e => e
theorem kp_draw (F : At K mg "_law_draw" s_draw) (GM : Keeps CX0 P w K mg base "_law_mix" 1 ["_law_number", "_law_turn"] spMix) (nI : mg "int" = none) (nL : mg "len" = none) : Keeps CX0 P w K mg base "_law_draw" 2 ["_law_hand_here", "_law_many"] spDraw := by
  refine keeps_of F sc_draw (fun _ _ _ _ _ _ us hl => match us, hl with | [_, _], _ => rfl) (fun vs H Q E h => ?_) (fun f cdv A outer s H vs Q E hr h => ?_)
  · obtain ⟨p, c, m, rfl, _⟩ := h
    rfl
  · obtain ⟨p, c, m, rfl, ⟨cs, i, rest, tot, hp, hc, hi⟩, ⟨hm, hm2⟩, k⟩ := h
    have cp : c ≠ p := ne_of hc hp (by
      intro z
      cases cs with
      | nil => cases z
      | cons y ys => cases z)
    -- what stands behind the first if
    obtain ⟨tl, dtl, tail⟩ : ∃ tl, PSs (cxOf CX0 P w K mg base N_draw "_law_draw" (defScope s_draw) f cdv A outer s H E).nox ((defBody s_draw).drop 1) tl ∧ ∀ (H1 : Hp) (i1 r1 : Int) (x : Option V), 0 ≤ i1 → H1 p = some (.lst [.ref c, .int i1, .int r1, .int tot]) → H1 c = some (.lst (cs.map V.int)) → But p H H1 →
        tl { nx := fun _ H' => Q .non H', rt := Q } [some (V.ref p), some (V.int m), x, none] H1 := by
      refine ⟨_, (pss_cons (ps_if (pt_cmpR op_gt (pe_ix ix_list (pv 0) pe_int (fun _ _ => rfl)) pe_int (nomark _)) (pss_cons (ps_set (i := 3) sc_draw.nd rfl (by walk_at "lv") (pe_ix ix_list (pv 0) pe_int (fun _ _ => rfl)))
        (pss_cons (ps_asg (pe_op op_fdivW (pv 3) (pv 1)) (pg_sub (pv 0) pe_int set_list))
        (pss_one (ps_ret (pe_op op_mod (pe_callTy call_int1 (by rfl) nI boot_int (pa_cons (pv 3) pa_nil)) (pv 1)))))) pss_nil)
        (pss_cons (ps_asg (pe_op op_mod (pe_callTy call_int1 (by rfl) nI boot_int (pa_cons (pe_op op_add (pe_ix ix_list (pv 0) pe_int (fun _ _ => rfl)) pe_int) pa_nil)) pe_int) (pg_sub (pv 0) pe_int set_list))
        (pss_one (ps_ret (pe_op op_mod (pe_callTy call_int1 (by rfl) nI boot_int (pa_cons (pe_k GM hr (by rfl) pass0 (pa_cons (pe_ix ix_list (pv 0) pe_int (fun _ _ => rfl)) (pa_cons (pe_ix ix_list (pv 0) pe_int (fun _ _ => rfl)) pa_nil))) pa_nil)) (pv 1)))))), ?_⟩
      intro H1 i1 r1 x h0 h1 h2 b1
      refine ⟨_, rfl, p, _, _, _, rfl, rfl, SqL.of h1, rfl, _, _, rfl, rfl, _, rfl, ?_⟩
      refine ite2 (fun _ => ?_) (fun _ => ?_)
      · refine ⟨_, rfl, p, _, _, _, rfl, rfl, SqL.of h1, rfl, _, rfl, _, rfl, _, _, rfl, rfl, ⟨hm, hm2⟩, _, rfl, p, _, _, 2, rfl, rfl, h1, rfl, ?_⟩
        refine ⟨_, rfl, .inl ⟨_, rfl, _, rfl, _, _, rfl, rfl, hm, ?_⟩⟩
        exact k _ _ (Int.emod_nonneg _ (by omega)) (Int.emod_lt_of_pos _ hm) ⟨cs, i1, _, _, upd_same, by rw [upd_ne cp]; exact h2, h0⟩ b1.upd
      · refine ⟨_, rfl, p, _, _, _, rfl, rfl, SqL.of h1, rfl, _, _, rfl, rfl, .inl ⟨_, rfl, _, _, rfl, rfl, (by show (0 : Int) < _; decide), _, rfl, p, _, _, 3, rfl, rfl, h1, rfl, ?_⟩⟩
        refine ⟨_, rfl, p, _, _, _, rfl, rfl, SqL.of upd_same, rfl, _, rfl, p, _, _, _, rfl, rfl, SqL.of upd_same, rfl, _, _, rfl, fun r => .inl ⟨_, rfl, _, rfl, _, _, rfl, rfl, hm, ?_⟩⟩
        exact k _ _ (Int.emod_nonneg _ (by omega)) (Int.emod_lt_of_pos _ hm) ⟨cs, i1, _, _, upd_same, by rw [upd_ne cp]; exact h2, h0⟩ b1.upd
    refine ⟨_, pss_cons (ps_if (PW.pt (pw_and (pt_cmpR op_eq (pe_ix ix_list (pv 0) pe_int (fun _ _ => rfl)) pe_int (nomark _)) (pw_and1 (pt_cmpR op_lt (pe_ix ix_list (pv 0) pe_int (fun _ _ => rfl)) (pe_callB call_len_seq (by rfl) nL boot_len (pa_cons (pe_ix ix_list (pv 0) pe_int (fun _ _ => rfl)) pa_nil)) (nomark _))))) (pss_cons (ps_set (i := 2) sc_draw.nd rfl (by walk_at "lv") (pe_ix ix_list (pe_ix ix_list (pv 0) pe_int (fun _ _ => rfl)) (pe_ix ix_list (pv 0) pe_int (fun _ _ => rfl)) (fun _ _ => rfl)))
        (pss_cons (ps_asg (pe_op op_add (pe_ix ix_list (pv 0) pe_int (fun _ _ => rfl)) pe_int) (pg_sub (pv 0) pe_int set_list))
        (pss_cons (ps_if (pt_cmpR op_lt (pv 2) (pe_op op_pow pe_int pe_int) (nomark _)) (pss_one (ps_ret (pe_op op_mod (pe_callTy call_int1 (by rfl) nI boot_int (pa_cons (pe_k GM hr (by rfl) pass0 (pa_cons (pe_op op_mod (pe_callTy call_int1 (by rfl) nI boot_int (pa_cons (pv 2) pa_nil)) pe_int) (pa_cons (pe_ix ix_list (pv 0) pe_int (fun _ _ => rfl)) pa_nil))) pa_nil)) (pv 1)))) pss_nil)
        (pss_one (ps_asg (pv 2) (pg_sub (pv 0) pe_int set_list)))))) pss_nil) dtl, ?_⟩
    refine ⟨_, rfl, p, _, _, _, rfl, rfl, SqL.of hp, rfl, rfl, _, rfl, ?_⟩
    refine ite2 (fun _ => ?_) (fun _ => ?_)
    · refine ⟨_, rfl, p, _, _, _, rfl, rfl, SqL.of hp, rfl, _, rfl, p, _, _, _, rfl, rfl, SqL.of hp, rfl, c, _, rfl, .inl (SqL.of hc), _, _, rfl, rfl, _, rfl, ?_⟩
      refine ite2 (fun hlt => ?_) (fun _ => ?_)
      · have hlt := of_decide_eq_true hlt
        rw [List.length_map] at hlt
        obtain ⟨v, ev, eat⟩ := atI_of (xs := cs.map V.int) hi (by rw [List.length_map]; exact hlt)
        obtain ⟨z, _, rfl⟩ := int_at ev
        refine ⟨_, rfl, p, _, _, _, rfl, rfl, SqL.of hp, rfl, _, rfl, p, _, _, _, rfl, rfl, SqL.of hp, rfl, c, _, _, _, rfl, rfl, SqL.of hc, eat, ?_⟩
        refine ⟨_, rfl, p, _, _, _, rfl, rfl, SqL.of hp, rfl, _, _, rfl, rfl, _, rfl, p, _, _, 1, rfl, rfl, hp, rfl, ?_⟩
        refine ⟨_, rfl, _, _, rfl, rfl, ⟨by decide, by decide, by decide⟩, _, _, rfl, rfl, _, rfl, ?_⟩
        refine ite2 (fun _ => ?_) (fun _ => ?_)
        · refine ⟨_, rfl, .inl ⟨_, rfl, _, _, rfl, rfl, (by show (0 : Int) < _; decide), _, rfl, p, _, _, _, rfl, rfl, SqL.of upd_same, rfl, _, _, rfl, fun r => .inl ⟨_, rfl, _, rfl, _, _, rfl, rfl, hm, ?_⟩⟩⟩
          exact k _ _ (Int.emod_nonneg _ (by omega)) (Int.emod_lt_of_pos _ hm) ⟨cs, _, _, _, upd_same, by rw [upd_ne cp]; exact hc, by omega⟩ (But.refl p H).upd
        · refine ⟨_, rfl, _, rfl, p, _, _, 2, rfl, rfl, upd_same, rfl, ?_⟩
          exact tail _ (i + 1) z _ (by omega) upd_same (by rw [upd_ne cp, upd_ne cp]; exact hc) (But.refl p H).upd.upd
      · exact tail _ i rest _ hi hp hc (But.refl p H)
    · exact tail _ i rest _ hi hp hc (But.refl p H)
end
end My
set_option Elab.async false
set_option linter.all false
set_option maxRecDepth 100000
set_option maxHeartbeats 8000000
namespace My
open PySem PySem.Spec PyProof.Rows L2
section
variable {X : L2.Cx}
/-! ### x in t, t a tuple of data -/
def rInT (K : PySem.W.Frag) : R2 := fun x y H Q => ∃ d ds, Dp K H x d ∧ Dp K H y (.tuple ds) ∧ SeqAt.shaped d = true ∧ SeqAt.shaped (.tuple ds) = true ∧ Q (.bl (ds.any fun z => PyData.eqv z d)) H
theorem op_inT (hu : X.A.units + 65 < cLine) : OpR X (compareOp .In) (rInT X.K) := by
  intro pins s σ H x y v u Q I rx ry h; obtain ⟨d, ds, hd, he, sd, se, q⟩ := h
  obtain ⟨as, r1⟩ := Dp.reads I d x v hd rx; obtain ⟨bs, r2⟩ := Dp.reads I (.tuple ds) y u he ry
  exact SeqAt.in_tuple_reads r2 r1 (SeqAt.canLay_of_shaped se) (SeqAt.canLay_of_shaped sd) (room_in_shaped sd hu) ⟨.bl _, H, I, rfl, q⟩
/-- math.lcm of two numbers -/
def rLcm : List V → Hp → VK → Prop := fun vs H Q => ∃ a b : Int, vs = [.int a, .int b] ∧ a.natAbs < 2 ^ 20 ∧ b.natAbs < 2 ^ 20 ∧ Q (.int ((Nat.lcm a.natAbs b.natAbs : Nat) : Int)) H
theorem cr_lcm : CallR X (.builtin "math.lcm") rLcm := by
  intro pins s σ H vs us Q I r h; obtain ⟨a, b, rfl, ha, hb, q⟩ := h
  obtain ⟨t, u, rfl⟩ := Vals.int2 r; exact PySem.W.mc_lcm (by omega) (by omega) fun _ => ⟨.int _, H, I.tok _, ⟨_, rfl⟩, q⟩
end
end My
set_option linter.all false
namespace My
/-! ### the mathematics of lots: plain Lean -/
def cyc (l : List Bool) (n : Int) : Bool := l.getD (n % (l.length : Int)).toNat false
def Per (f : Int → Bool) (d : Nat) : Prop := ∀ n : Int, f (n + d) = f n
theorem Per.mul {f : Int → Bool} {d : Nat} (h : Per f d) (k : Nat) : Per f (d * k) := by
  induction k with
  | zero => intro n; simp
  | succ k ih =>
    intro n
    have e : n + ((d * (k + 1) : Nat) : Int) = (n + ((d * k : Nat) : Int)) + (d : Int) := by
      rw [Nat.mul_succ]; push_cast; omega
    rw [e, h, ih]
theorem Per.back {f : Int → Bool} {d : Nat} (h : Per f d) (n : Int) : f (n - d) = f n := by
  have := h (n - d)
  rw [← this]; congr 1; omega
theorem Per.mulI {f : Int → Bool} {d : Nat} (h : Per f d) (k : Int) (n : Int) : f (n + d * k) = f n := by
  rcases Int.le_total 0 k with hk | hk
  · obtain ⟨j, rfl⟩ := Int.eq_ofNat_of_zero_le hk
    have := h.mul j n
    push_cast at this
    exact this
  · obtain ⟨j, hj⟩ := Int.eq_ofNat_of_zero_le (by omega : 0 ≤ -k)
    have e : k = -(j : Int) := by omega
    subst e
    have := (h.mul j).back n
    push_cast at this
    rw [← this]; congr 1; rw [Int.mul_neg]; omega
theorem Per.mod {f : Int → Bool} {d : Nat} (h : Per f d) (n : Int) : f (n % d) = f n := by
  have e := Int.emod_add_mul_ediv n (d : Int)
  have := h.mulI (n / d) (n % d)
  rw [e] at this
  exact this.symm
/-- two numbers alike modulo a period -/
theorem Per.cong {f : Int → Bool} {d : Nat} (h : Per f d) {a b : Int} (e : a % (d : Int) = b % (d : Int)) : f a = f b := by
  rw [← h.mod a, ← h.mod b, e]
theorem cyc_per {l : List Bool} : Per (cyc l) l.length := by
  intro n
  unfold cyc
  rw [Int.add_emod_right]
theorem cyc_lt {l : List Bool} {k : Nat} (h : k < l.length) : cyc l (k : Int) = l.getD k false := by
  unfold cyc
  have : ((k : Int) % (l.length : Int)).toNat = k := by
    rw [Int.emod_eq_of_lt (by omega) (by omega)]; rfl
  rw [this]
/-- least common period of two functions -/
structure Least (U D : Int → Bool) (d : Nat) : Prop where
  pos : 0 < d
  pu : Per U d
  pd : Per D d
  le : ∀ e : Nat, 0 < e → Per U e → Per D e → d ≤ e
theorem Least.dvd {U D : Int → Bool} {d m : Nat} (h : Least U D d) (hm : 0 < m) (pu : Per U m) (pd : Per D m) : m % d = 0 := by
  have key : ∀ {f : Int → Bool}, Per f d → Per f m → Per f (m % d) := by
    intro f hd hm' n
    have e := Nat.mod_add_div m d
    have e2 : n + ((m % d : Nat) : Int) = (n + (m : Int)) - ((d * (m / d) : Nat) : Int) := by
      have : (m : Int) = ((m % d + d * (m / d) : Nat) : Int) := by rw [e]
      rw [this]; push_cast; omega
    rw [e2, (hd.mul (m / d)).back, hm']
  rcases Nat.eq_zero_or_pos (m % d) with h0 | h0
  · exact h0
  · have := h.le _ h0 (key h.pu pu) (key h.pd pd)
    have := Nat.mod_lt m h.pos
    omega
theorem least_ex {U D : Int → Bool} : ∀ m : Nat, 0 < m → Per U m → Per D m → ∃ d, Least U D d := by
  intro m
  induction m using Nat.strongRecOn with | ind m ih =>
    intro hm pu pd
    by_cases h : ∃ e, 0 < e ∧ e < m ∧ Per U e ∧ Per D e
    · obtain ⟨e, he, hlt, pu', pd'⟩ := h
      exact ih e hlt he pu' pd'
    · refine ⟨m, hm, pu, pd, fun e he pu' pd' => ?_⟩
      rcases Nat.lt_or_ge e m with q | q
      · exact absurd ⟨e, he, q, pu', pd'⟩ h
      · exact q
theorem Least.unique {U D : Int → Bool} {d e : Nat} (h : Least U D d) (g : Least U D e) : d = e :=
  Nat.le_antisymm (h.le e g.pos g.pu g.pd) (g.le d h.pos h.pu h.pd)
/-- lists: d divides the length, and what stands at k stands at k mod d: a period of cyc -/
theorem per_of {l : List Bool} {d : Nat} (hd : 0 < d) (hm : l.length % d = 0) (h : ∀ k, k < l.length → l.getD k false = l.getD (k % d) false) : Per (cyc l) d := by
  rcases Nat.eq_zero_or_pos l.length with h0 | hl
  · intro n; unfold cyc; rw [List.length_eq_zero_iff.mp h0]; rfl
  have at_ : ∀ n : Int, cyc l n = l.getD (n % (d : Int)).toNat false := by
    intro n
    have k0 := Int.emod_nonneg n (by omega : (l.length : Int) ≠ 0)
    have k1 := Int.emod_lt_of_pos n (by omega : (0 : Int) < (l.length : Int))
    unfold cyc
    rw [h _ (by omega)]
    congr 1
    have e : (l.length : Int) = (d : Int) * ((l.length / d : Nat) : Int) := by
      have := Nat.mod_add_div l.length d
      rw [hm, Nat.zero_add] at this
      exact_mod_cast this.symm
    have q : (n % (l.length : Int)) % (d : Int) = n % (d : Int) := by
      rw [e]; exact Int.emod_emod_of_dvd n ⟨_, rfl⟩
    have : ((n % (l.length : Int)).toNat % d : Nat) = ((n % (l.length : Int)) % (d : Int)).toNat := by
      have q2 : (((n % (l.length : Int)).toNat : Nat) : Int) = n % (l.length : Int) := by omega
      have : (((n % (l.length : Int)).toNat % d : Nat) : Int) = (n % (l.length : Int)) % (d : Int) := by rw [Int.natCast_emod, q2]
      omega
    rw [this, q]
  intro n
  rw [at_, at_, Int.add_emod_right]
theorem of_per {l : List Bool} {d : Nat} (hd : 0 < d) (h : Per (cyc l) d) (hdl : d ≤ l.length) : ∀ k, k < l.length → l.getD k false = l.getD (k % d) false := by
  intro k hk
  have hlt := Nat.mod_lt k hd
  rw [← cyc_lt hk, ← cyc_lt (show k % d < l.length by omega)]
  have := h.mod (k : Int)
  rw [← this]; push_cast; rfl
/-- the same by shifts: what stands d further is alike -/
theorem shift_of {l : List Bool} {d : Nat} (hd : 0 < d) (h : ∀ k, k + d < l.length → l.getD (k + d) false = l.getD k false) : ∀ k, k < l.length → l.getD k false = l.getD (k % d) false := by
  intro k
  induction k using Nat.strongRecOn with
  | ind k ih =>
    intro hk
    rcases Nat.lt_or_ge k d with q | q
    · rw [Nat.mod_eq_of_lt q]
    · have e : k = (k - d) + d := by omega
      have := h (k - d) (by omega)
      rw [← e] at this
      rw [this, ih (k - d) (by omega) (by omega), e, Nat.add_mod_right]
      congr 2; omega
/-! ### a telling -/
structure Tl where
  lo : Int
  cs : List Bool
  us : List Bool
  ds : List Bool
def Tl.m (T : Tl) : Nat := T.us.length
def Tl.hi (T : Tl) : Int := T.lo + T.cs.length - 1
def Tl.U (T : Tl) : Int → Bool := cyc T.us
def Tl.D (T : Tl) : Int → Bool := cyc T.ds
def Tl.has (T : Tl) (n : Int) : Bool := if n < T.lo then T.D n else if T.hi < n then T.U n else T.cs.getD (n - T.lo).toNat false
structure Tl.Ok (T : Tl) : Prop where
  len : T.ds.length = T.us.length
  pos : 0 < T.us.length
theorem Tl.Ok.pu {T : Tl} (h : T.Ok) : Per T.U T.m := cyc_per
theorem Tl.Ok.pd {T : Tl} (h : T.Ok) : Per T.D T.m := by
  have := cyc_per (l := T.ds)
  rw [h.len] at this
  exact this
structure IsForm (h U D : Int → Bool) (lo hi : Int) (d : Nat) : Prop where
  least : Least U D d
  ends : ((∀ n, h n = U n) ∧ (∀ n, h n = D n) ∧ lo = 0 ∧ hi = -1) ∨
    (h hi ≠ U hi ∧ (∀ n, hi < n → h n = U n) ∧ lo ≤ hi + 1 ∧ (∀ n, n < lo → h n = D n) ∧ (lo = hi + 1 ∨ h lo ≠ D lo))
theorem IsForm.unique {h U D : Int → Bool} {lo hi lo' hi' : Int} {d d' : Nat} (a : IsForm h U D lo hi d) (b : IsForm h U D lo' hi' d') : lo = lo' ∧ hi = hi' ∧ d = d' := by
  refine ⟨?_, ?_, a.least.unique b.least⟩ <;> rcases a.ends with ⟨a1, a2, a3, a4⟩ | ⟨a1, a2, a3, a4, a5⟩ <;> rcases b.ends with ⟨b1, b2, b3, b4⟩ | ⟨b1, b2, b3, b4, b5⟩
  · omega
  · exact absurd (a1 _) b1
  · exact absurd (b1 _) a1
  · have e : hi = hi' := by
      rcases Int.lt_trichotomy hi hi' with q | q | q
      · exact absurd (a2 _ q) b1
      · exact q
      · exact absurd (b2 _ q) a1
    subst e
    rcases Int.lt_trichotomy lo lo' with q | q | q
    · rcases a5 with a5 | a5
      · omega
      · exact absurd (b4 _ q) a5
    · exact q
    · rcases b5 with b5 | b5
      · omega
      · exact absurd (a4 _ q) b5
  · omega
  · exact absurd (a1 _) b1
  · exact absurd (b1 _) a1
  · rcases Int.lt_trichotomy hi hi' with q | q | q
    · exact absurd (a2 _ q) b1
    · exact q
    · exact absurd (b2 _ q) a1
theorem IsForm.above {h U D : Int → Bool} {lo hi : Int} {d : Nat} (a : IsForm h U D lo hi d) {n : Int} (hn : hi < n) : h n = U n := by
  rcases a.ends with e | e
  · exact e.1 n
  · exact e.2.1 n hn
theorem IsForm.below {h U D : Int → Bool} {lo hi : Int} {d : Nat} (a : IsForm h U D lo hi d) {n : Int} (hn : n < lo) : h n = D n := by
  rcases a.ends with e | e
  · exact e.2.1 n
  · exact e.2.2.2.1 n hn
theorem IsForm.size {h U D : Int → Bool} {lo hi : Int} {d : Nat} (a : IsForm h U D lo hi d) : lo ≤ hi + 1 := by
  rcases a.ends with e | e
  · omega
  · exact e.2.2.1
/-! ### what holds of a telling beyond its window -/
theorem Tl.above {T : Tl} {n : Int} (h : T.hi < n) : T.has n = T.U n := by
  unfold Tl.has Tl.hi at *
  rw [if_neg (by omega), if_pos (by omega)]
theorem Tl.below {T : Tl} {n : Int} (h : n < T.lo) : T.has n = T.D n := by
  unfold Tl.has
  rw [if_pos h]
theorem Tl.core {T : Tl} {n : Int} (h : T.lo ≤ n) (h2 : n ≤ T.hi) : T.has n = T.cs.getD (n - T.lo).toNat false := by
  unfold Tl.has; rw [if_neg (by omega), if_neg (by omega)]
/-- a function that is alike on m numbers in a row below is alike below -/
theorem Tl.all_above {T : Tl} (ok : T.Ok) {a : Int} (ha : a ≤ T.lo) (h : ∀ n, a - T.m ≤ n → n < a → T.has n = T.U n) : ∀ n, n < a → T.has n = T.U n := by
  intro n hn
  have hm : (0 : Int) < (T.m : Int) := by have := ok.pos; unfold Tl.m; omega
  rw [Tl.below (show n < T.lo by omega)]
  have k0 := Int.emod_nonneg (n - (a - T.m)) (by omega : (T.m : Int) ≠ 0)
  have k1 := Int.emod_lt_of_pos (n - (a - T.m)) hm
  have q := h ((a - T.m) + (n - (a - T.m)) % (T.m : Int)) (by omega) (by omega)
  rw [Tl.below (by omega)] at q
  have cg : ((a - T.m) + (n - (a - T.m)) % (T.m : Int)) % (T.m : Int) = n % (T.m : Int) := by
    rw [Int.add_emod_emod]; congr 1; omega
  rw [ok.pd.cong cg, ok.pu.cong cg] at q
  exact q
end My
set_option linter.all false
namespace My
/-- n irow in a row from lo -/
def irow (lo : Int) (n : Nat) : List Int := (List.range n).map fun k => lo + (k : Nat)
theorem irow_succ (lo : Int) (n : Nat) : irow lo (n + 1) = irow lo n ++ [lo + (n : Nat)] := by
  unfold irow
  rw [List.range_succ, List.map_append]
  rfl
theorem mem_irow {lo x : Int} {n : Nat} : x ∈ irow lo n ↔ lo ≤ x ∧ x < lo + n := by
  unfold irow
  rw [List.mem_map]
  constructor
  · rintro ⟨k, hk, rfl⟩
    have := List.mem_range.mp hk
    omega
  · intro h
    exact ⟨(x - lo).toNat, List.mem_range.mpr (by omega), by omega⟩
def fil (P : Int → Bool) (lo : Int) (n : Nat) : List Int := (irow lo n).filter P
theorem fil_zero (P : Int → Bool) (lo : Int) : fil P lo 0 = [] := rfl
theorem fil_succ (P : Int → Bool) (lo : Int) (n : Nat) : fil P lo (n + 1) = fil P lo n ++ (if P (lo + (n : Nat)) = true then [lo + (n : Nat)] else []) := by
  unfold fil
  rw [irow_succ, List.filter_append]
  congr 1
  by_cases h : P (lo + (n : Nat)) = true
  · rw [if_pos h, List.filter_cons_of_pos h]; rfl
  · rw [if_neg h, List.filter_cons_of_neg h]; rfl
theorem fil_pos {P : Int → Bool} {lo : Int} {n : Nat} (h : P (lo + (n : Nat)) = true) : fil P lo (n + 1) = fil P lo n ++ [lo + (n : Nat)] := by
  rw [fil_succ, if_pos h]
theorem fil_neg {P : Int → Bool} {lo : Int} {n : Nat} (h : ¬ P (lo + (n : Nat)) = true) : fil P lo (n + 1) = fil P lo n := by
  rw [fil_succ, if_neg h, List.append_nil]
theorem mem_fil {P : Int → Bool} {lo x : Int} {n : Nat} : x ∈ fil P lo n ↔ (lo ≤ x ∧ x < lo + n) ∧ P x = true := by
  unfold fil
  rw [List.mem_filter, mem_irow]
theorem fil_len (P : Int → Bool) (lo : Int) (n : Nat) : (fil P lo n).length ≤ n := by
  unfold fil
  refine Nat.le_trans (List.length_filter_le _ _) ?_
  unfold irow
  simp
theorem fil_cong {P Q : Int → Bool} {lo : Int} {n : Nat} (h : ∀ x, lo ≤ x → x < lo + n → P x = Q x) : fil P lo n = fil Q lo n := by
  unfold fil
  refine List.filter_congr fun x hx => ?_
  have := mem_irow.mp hx
  exact h x this.1 this.2
theorem irow_asc (lo : Int) : ∀ n, (irow lo n).Pairwise (· < ·)
  | 0 => List.Pairwise.nil
  | n + 1 => by
    rw [irow_succ, List.pairwise_append]
    refine ⟨irow_asc lo n, List.pairwise_singleton _ _, fun a ha b hb => ?_⟩
    have h1 := mem_irow.mp ha
    rw [List.mem_singleton.mp hb]
    omega
theorem fil_asc (P : Int → Bool) (lo : Int) (n : Nat) : (fil P lo n).Pairwise (· < ·) := (irow_asc lo n).filter _
theorem fil_nodup (P : Int → Bool) (lo : Int) (n : Nat) : (fil P lo n).Nodup := (fil_asc P lo n).imp fun h => Int.ne_of_lt h
/-- the first and the last that P takes -/
theorem fil_first {P : Int → Bool} {lo : Int} {n : Nat} (hx : ∃ x, lo ≤ x ∧ x < lo + n ∧ P x = true) : ∃ v, (fil P lo n)[0]? = some v ∧ lo ≤ v ∧ v < lo + n ∧ P v = true ∧ ∀ x, lo ≤ x → x < v → P x = false := by
  obtain ⟨x, h1, h2, h3⟩ := hx
  have hm := mem_fil.mpr ⟨⟨h1, h2⟩, h3⟩
  have asc := fil_asc P lo n
  cases e : fil P lo n with
  | nil => rw [e] at hm; cases hm
  | cons v r =>
    rw [e] at asc
    have hv : v ∈ fil P lo n := by rw [e]; exact List.mem_cons_self
    have hv := mem_fil.mp hv
    refine ⟨v, rfl, hv.1.1, hv.1.2, hv.2, fun y hy hlt => ?_⟩
    cases q : P y with
    | false => rfl
    | true =>
      have hy2 : y ∈ fil P lo n := mem_fil.mpr ⟨⟨hy, by omega⟩, q⟩
      rw [e] at hy2
      rcases List.mem_cons.mp hy2 with z | z
      · omega
      · have := (List.pairwise_cons.mp asc).1 y z
        omega
theorem fil_last {P : Int → Bool} {lo : Int} {n : Nat} (hx : fil P lo n ≠ []) : ∃ r v, fil P lo n = r ++ [v] ∧ lo ≤ v ∧ v < lo + n ∧ P v = true ∧ ∀ x, v < x → x < lo + n → P x = false := by
  have asc := fil_asc P lo n
  refine ⟨(fil P lo n).dropLast, (fil P lo n).getLast hx, (List.dropLast_concat_getLast hx).symm, ?_⟩
  have hv := mem_fil.mp (List.getLast_mem hx)
  refine ⟨hv.1.1, hv.1.2, hv.2, fun y hlt hy => ?_⟩
  cases q : P y with
  | false => rfl
  | true =>
    have hy2 : y ∈ fil P lo n := mem_fil.mpr ⟨⟨by omega, hy⟩, q⟩
    rw [← List.dropLast_concat_getLast hx] at hy2 asc
    rcases List.mem_append.mp hy2 with z | z
    · have := (List.pairwise_append.mp asc).2.2 y z _ (List.mem_singleton.mpr rfl)
      omega
    · have := List.mem_singleton.mp z
      omega
theorem fil_nil {P : Int → Bool} {lo : Int} {n : Nat} (h : fil P lo n = []) : ∀ x, lo ≤ x → x < lo + n → P x = false := by
  intro x h1 h2
  cases q : P x with
  | false => rfl
  | true =>
    have := mem_fil.mpr ⟨⟨h1, h2⟩, q⟩
    rw [h] at this
    cases this
/-- the places of the flags -/
def res (bs : List Bool) : List Int := fil (fun k => bs.getD k.toNat false) 0 bs.length
theorem mem_res {bs : List Bool} {x : Int} : x ∈ res bs ↔ (0 ≤ x ∧ x < bs.length) ∧ bs.getD x.toNat false = true := by
  unfold res
  rw [mem_fil, Int.zero_add]
theorem rep_flat {α : Type} (x : α) : ∀ n, (List.replicate n [x]).flatten = List.replicate n x
  | 0 => rfl
  | n + 1 => by
    rw [List.replicate_succ, List.flatten_cons, rep_flat x n, List.replicate_succ]
    rfl
end My
set_option linter.all false
namespace My
theorem per_shift {l : List Bool} {d : Nat} (h : Per (cyc l) d) : ∀ k, k + d < l.length → l.getD (k + d) false = l.getD k false := by
  intro k hk
  rw [← cyc_lt hk, ← cyc_lt (show k < l.length by omega)]
  have := h (k : Int)
  rw [← this]; congr 1
theorem cut_shift {l : List Bool} {d : Nat} (hd : d ≤ l.length) : (l.drop d = l.take (l.length - d)) ↔ ∀ k, k + d < l.length → l.getD (k + d) false = l.getD k false := by
  constructor
  · intro h k hk
    have h1 : (l.drop d)[k]? = l[k + d]? := by rw [List.getElem?_drop, Nat.add_comm]
    have h2 : (l.take (l.length - d))[k]? = l[k]? := by rw [List.getElem?_take]; rw [if_pos (by omega)]
    rw [List.getD_eq_getElem?_getD, List.getD_eq_getElem?_getD, ← h1, ← h2, h]
  · intro h
    refine List.ext_getElem (by rw [List.length_drop, List.length_take]; omega) fun k h1 h2 => ?_
    rw [List.length_drop] at h1
    have := h k (by omega)
    rw [List.getElem_drop, List.getElem_take]
    rw [List.getD_eq_getElem?_getD, List.getD_eq_getElem?_getD, List.getElem?_eq_getElem (by omega), List.getElem?_eq_getElem (by omega)] at this
    simpa [Nat.add_comm] using this
theorem shift_per {l : List Bool} {d : Nat} (hd : 0 < d) (hm : l.length % d = 0) (h : ∀ k, k + d < l.length → l.getD (k + d) false = l.getD k false) : Per (cyc l) d := per_of hd hm (shift_of hd h)
theorem cyc_take {l : List Bool} {d : Nat} (hd : 0 < d) (hl : d ≤ l.length) (h : Per (cyc l) d) : cyc (l.take d) = cyc l := by
  funext n
  have hlen : (l.take d).length = d := by rw [List.length_take]; omega
  have k0 := Int.emod_nonneg n (by omega : (d : Int) ≠ 0)
  have k1 := Int.emod_lt_of_pos n (by omega : (0 : Int) < (d : Int))
  rw [← h.mod n]
  conv => lhs; unfold cyc
  rw [hlen]
  have e : n % (d : Int) = (((n % (d : Int)).toNat : Nat) : Int) := by omega
  have : cyc l (n % (d : Int)) = l.getD (n % (d : Int)).toNat false := by
    have q := cyc_lt (l := l) (k := (n % (d : Int)).toNat) (by omega)
    rw [← e] at q
    exact q
  rw [this, List.getD_eq_getElem?_getD, List.getD_eq_getElem?_getD, List.getElem?_take, if_pos (by omega)]
/-- the least one among those that divide -/
theorem least_by {U D : Int → Bool} {m d : Nat} (hm : 0 < m) (pu : Per U m) (pd : Per D m) (hd : 0 < d) (du : Per U d) (dd : Per D d) (h : ∀ e, 0 < e → e < d → m % e = 0 → Per U e → Per D e → False) : Least U D d := by
  obtain ⟨p, hp⟩ := least_ex m hm pu pd
  refine ⟨hd, du, dd, fun e he eu ed => ?_⟩
  rcases Nat.lt_or_ge p d with q | q
  · exact (h p hp.pos q (hp.dvd hm pu pd) hp.pu hp.pd).elim
  · exact Nat.le_trans q (hp.le e he eu ed)
/-- where the sides part -/
theorem Tl.parts {T : Tl} (ok : T.Ok) (h : ∃ n, T.has n ≠ T.U n) (hc : ∀ n, T.lo ≤ n → n ≤ T.hi → T.has n = T.D n) : ∃ w, T.hi < w ∧ w ≤ T.hi + T.m ∧ T.U w ≠ T.D w := by
  refine Classical.byContradiction fun no => ?_
  have all : ∀ n, T.U n = T.D n := by
    intro n
    have hm : (0 : Int) < (T.m : Int) := by have := ok.pos; unfold Tl.m; omega
    have k0 := Int.emod_nonneg (n - (T.hi + 1)) (by omega : (T.m : Int) ≠ 0)
    have k1 := Int.emod_lt_of_pos (n - (T.hi + 1)) hm
    have cg : ((T.hi + 1) + (n - (T.hi + 1)) % (T.m : Int)) % (T.m : Int) = n % (T.m : Int) := by
      rw [Int.add_emod_emod]; congr 1; omega
    have q : T.U ((T.hi + 1) + (n - (T.hi + 1)) % (T.m : Int)) = T.D ((T.hi + 1) + (n - (T.hi + 1)) % (T.m : Int)) := by
      refine Classical.byContradiction fun z => no ⟨_, ?_, ?_, z⟩ <;> omega
    rw [ok.pu.cong cg, ok.pd.cong cg] at q
    exact q
  obtain ⟨n, hn⟩ := h
  refine hn ?_
  rcases Int.lt_or_le n T.lo with q | q
  · rw [Tl.below q, all]
  · rcases Int.lt_or_le T.hi n with q2 | q2
    · exact Tl.above q2
    · rw [hc n q q2, all]
/-- the form from its two ends -/
theorem form_none {T : Tl} (ok : T.Ok) {d : Nat} (hd : Least T.U T.D d) (h : ∀ n, T.has n = T.U n) : IsForm T.has T.U T.D 0 (-1) d := by
  refine ⟨hd, .inl ⟨h, fun n => ?_, rfl, rfl⟩⟩
  -- below lo: has = D, and has = U: so U = D there, so everywhere
  have hm : (0 : Int) < (T.m : Int) := by have := ok.pos; unfold Tl.m; omega
  have k0 := Int.emod_nonneg (n - T.lo) (by omega : (T.m : Int) ≠ 0)
  have k1 := Int.emod_lt_of_pos (n - T.lo) hm
  have cg : ((T.lo - T.m) + (n - T.lo) % (T.m : Int)) % (T.m : Int) = n % (T.m : Int) := by
    rw [Int.add_emod_emod]
    have : T.lo - (T.m : Int) + (n - T.lo) = n - (T.m : Int) := by omega
    rw [this, Int.sub_emod_right]
  have q := h ((T.lo - T.m) + (n - T.lo) % (T.m : Int))
  rw [Tl.below (by omega)] at q
  rw [ok.pd.cong cg, ok.pu.cong cg] at q
  rw [h n, q]
theorem form_some {T : Tl} {d : Nat} {v b : Int} (hd : Least T.U T.D d) (h1 : T.has v ≠ T.U v) (h2 : ∀ n, v < n → T.has n = T.U n) (h3 : T.has b ≠ T.D b) (h4 : ∀ n, n < b → T.has n = T.D n) :
    IsForm T.has T.U T.D (if v + 1 < b then v + 1 else b) v d := by
  refine ⟨hd, .inr ⟨h1, h2, by split <;> omega, fun n hn => h4 n (by split at hn <;> omega), ?_⟩⟩
  split
  · exact .inl rfl
  · exact .inr h3
end My
set_option linter.all false
namespace My
def rep (k : Nat) (l : List Bool) : List Bool := (List.replicate k l).flatten
theorem rep_len (l : List Bool) : ∀ k, (rep k l).length = k * l.length
  | 0 => by simp [rep]
  | k + 1 => by
    unfold rep
    rw [List.replicate_succ, List.flatten_cons, List.length_append]
    have := rep_len l k
    unfold rep at this
    rw [this, Nat.succ_mul]; omega
theorem rep_get (l : List Bool) (hl : 0 < l.length) : ∀ (k i : Nat), i < k * l.length → (rep k l).getD i false = l.getD (i % l.length) false
  | 0, i, h => by omega
  | k + 1, i, h => by
    have e : rep (k + 1) l = l ++ rep k l := by unfold rep; rw [List.replicate_succ, List.flatten_cons]
    rw [e, List.getD_eq_getElem?_getD]
    rcases Nat.lt_or_ge i l.length with q | q
    · rw [List.getElem?_append_left q, Nat.mod_eq_of_lt q, List.getD_eq_getElem?_getD]
    · rw [List.getElem?_append_right q, ← List.getD_eq_getElem?_getD, rep_get l hl k (i - l.length) (by rw [Nat.succ_mul] at h; omega)]
      congr 1
      conv => rhs; rw [show i = (i - l.length) + l.length by omega, Nat.add_mod_right]
theorem cyc_rep {l : List Bool} {k : Nat} (hk : 0 < k) (hl : 0 < l.length) : cyc (rep k l) = cyc l := by
  funext n
  have hkl : 0 < k * l.length := Nat.mul_pos hk hl
  have k0 := Int.emod_nonneg n (by omega : ((k * l.length : Nat) : Int) ≠ 0)
  have k1 := Int.emod_lt_of_pos n (by omega : (0 : Int) < ((k * l.length : Nat) : Int))
  unfold cyc
  rw [rep_len, rep_get l hl k _ (by omega)]
  congr 1
  have q : (n % ((k * l.length : Nat) : Int)) % (l.length : Int) = n % (l.length : Int) := by
    rw [Int.natCast_mul]
    exact Int.emod_emod_of_dvd n ⟨(k : Int), by rw [Int.mul_comm]⟩
  rw [← q]
  have e : n % ((k * l.length : Nat) : Int) = (((n % ((k * l.length : Nat) : Int)).toNat : Nat) : Int) := by omega
  conv => rhs; rw [e, ← Int.natCast_emod, Int.toNat_natCast]
/-- the same told again with a greater modulus and a wider core -/
def Tl.wide (T : Tl) (k l r : Nat) : Tl := ⟨T.lo - l, (List.range (T.cs.length + l + r)).map fun i => T.has (T.lo - l + (i : Nat)), rep k T.us, rep k T.ds⟩
theorem wide_U {T : Tl} {k l r : Nat} (ok : T.Ok) (hk : 0 < k) : (T.wide k l r).U = T.U := cyc_rep hk ok.pos
theorem wide_D {T : Tl} {k l r : Nat} (ok : T.Ok) (hk : 0 < k) : (T.wide k l r).D = T.D := cyc_rep hk (by rw [ok.len]; exact ok.pos)
theorem wide_ok {T : Tl} {k l r : Nat} (ok : T.Ok) (hk : 0 < k) : (T.wide k l r).Ok := ⟨by show (rep k T.ds).length = (rep k T.us).length; rw [rep_len, rep_len, ok.len], by show 0 < (rep k T.us).length; rw [rep_len]; exact Nat.mul_pos hk ok.pos⟩
theorem wide_hi {T : Tl} {k l r : Nat} : (T.wide k l r).hi = T.hi + r := by
  show T.lo - l + (((List.range (T.cs.length + l + r)).map fun i => T.has (T.lo - l + (i : Nat))).length : Int) - 1 = T.lo + T.cs.length - 1 + r
  rw [List.length_map, List.length_range]; push_cast
  omega
theorem wide_has {T : Tl} {k l r : Nat} (ok : T.Ok) (hk : 0 < k) : (T.wide k l r).has = T.has := by
  funext n
  have hlo : (T.wide k l r).lo = T.lo - l := rfl
  have hhi := wide_hi (T := T) (k := k) (l := l) (r := r)
  have hh : T.hi = T.lo + T.cs.length - 1 := rfl
  rcases Int.lt_or_le n (T.lo - l) with q | q
  · rw [Tl.below (by rw [hlo]; exact q), wide_D ok hk, Tl.below (by omega)]
  · rcases Int.lt_or_le (T.hi + r) n with q2 | q2
    · rw [Tl.above (by rw [hhi]; exact q2), wide_U ok hk, Tl.above (by omega)]
    · rw [Tl.core (by rw [hlo]; exact q) (by rw [hhi]; exact q2)]
      show ((List.range (T.cs.length + l + r)).map fun i => T.has (T.lo - l + (i : Nat))).getD (n - (T.lo - l)).toNat false = _
      have : (n - (T.lo - l)).toNat < T.cs.length + l + r := by omega
      rw [List.getD_eq_getElem?_getD, List.getElem?_map, List.getElem?_range this]
      show T.has (T.lo - l + ((n - (T.lo - l)).toNat : Nat)) = T.has n
      congr 1
      omega
/-! ### the law's own form -/
def okD (T : Tl) (d : Int) : Bool := decide ((T.us.length : Int) % d = 0) && ((List.range T.us.length).map fun k => decide (T.us.getD k false = cycD T.us k d) && decide (T.ds.getD k false = cycD T.ds k d)).all id
  where cycD (l : List Bool) (k : Nat) (d : Int) : Bool := l.getD ((k : Int) % d).toNat false
theorem all_ids {f : Nat → Bool} {m : Nat} : ((List.range m).map f).all id = true ↔ ∀ k, k < m → f k = true := by
  rw [List.all_eq_true]
  constructor
  · intro h k hk
    exact h _ (List.mem_map.mpr ⟨k, List.mem_range.mpr hk, rfl⟩)
  · rintro h x hx
    obtain ⟨k, hk, rfl⟩ := List.mem_map.mp hx
    exact h k (List.mem_range.mp hk)
theorem okD_iff {T : Tl} (ok : T.Ok) {d : Nat} (hd : 0 < d) (hm : d ≤ T.us.length) : okD T d = true ↔ (T.us.length % d = 0 ∧ Per T.U d ∧ Per T.D d) := by
  unfold okD
  rw [Bool.and_eq_true, all_ids, decide_eq_true_iff]
  have e : ∀ (l : List Bool) (k : Nat), okD.cycD l k (d : Int) = l.getD (k % d) false := fun l k => by
    unfold okD.cycD
    congr 1
  constructor
  · rintro ⟨h1, h2⟩
    have h1' : T.us.length % d = 0 := by exact_mod_cast h1
    refine ⟨h1', per_of hd h1' fun k hk => ?_, per_of hd (by rw [ok.len]; exact h1') fun k hk => ?_⟩
    · have := Bool.and_eq_true_iff.mp (h2 k hk)
      rw [← e]
      exact of_decide_eq_true this.1
    · rw [ok.len] at hk
      have := Bool.and_eq_true_iff.mp (h2 k hk)
      rw [← e]
      exact of_decide_eq_true this.2
  · rintro ⟨h1, h2, h3⟩
    refine ⟨by exact_mod_cast h1, fun k hk => Bool.and_eq_true_iff.mpr ⟨decide_eq_true ?_, decide_eq_true ?_⟩⟩
    · rw [e]
      exact of_per hd h2 hm k hk
    · rw [e]
      exact of_per hd h3 (by rw [ok.len]; exact hm) k (by rw [ok.len]; exact hk)
theorem size_first {T : Tl} (ok : T.Ok) : ∃ d : Nat, (fil (okD T) 1 T.us.length)[0]? = some (d : Int) ∧ d ≤ T.us.length ∧ Least T.U T.D d := by
  have hm := ok.pos
  have self : okD T (T.us.length : Nat) = true := (okD_iff ok hm (Nat.le_refl _)).mpr ⟨Nat.mod_self _, ok.pu, ok.pd⟩
  obtain ⟨v, h0, h1, h2, h3, h4⟩ := fil_first (P := okD T) (lo := 1) (n := T.us.length) ⟨(T.us.length : Int), by omega, by omega, self⟩
  obtain ⟨d, rfl⟩ := Int.eq_ofNat_of_zero_le (by omega : 0 ≤ v)
  have h3' := (okD_iff ok (by omega) (by omega)).mp h3
  refine ⟨d, h0, by omega, least_by hm ok.pu ok.pd (by omega) h3'.2.1 h3'.2.2 fun e he hlt hd pu pd => ?_⟩
  have := h4 (e : Int) (by omega) (by omega)
  rw [(okD_iff ok he (by omega)).mpr ⟨hd, pu, pd⟩] at this
  cases this
/-- the window shows all -/
theorem tops_nil {T : Tl} (ok : T.Ok) (h : fil (fun n => !decide (T.has n = T.U n)) (T.lo - T.us.length) (T.cs.length + T.us.length + T.us.length) = []) : ∀ n, T.has n = T.U n := by
  have hm : T.m = T.us.length := rfl
  have hh : T.hi = T.lo + T.cs.length - 1 := rfl
  have w : ∀ n, T.lo - T.us.length ≤ n → n ≤ T.hi + T.us.length → T.has n = T.U n := fun n h1 h2 => by
    have := fil_nil h n h1 (by push_cast; omega)
    simpa using this
  intro n
  rcases Int.lt_or_le n T.lo with q | q
  · exact Tl.all_above ok (Int.le_refl _) (fun n h1 h2 => w n (by omega) (by omega)) n q
  · rcases Int.lt_or_le T.hi n with q2 | q2
    · exact Tl.above q2
    · exact w n (by omega) (by omega)
theorem tops_last {T : Tl} (ok : T.Ok) {r : List Int} {v : Int} (h : fil (fun n => !decide (T.has n = T.U n)) (T.lo - T.us.length) (T.cs.length + T.us.length + T.us.length) = r ++ [v]) : T.has v ≠ T.U v ∧ (∀ n, v < n → T.has n = T.U n) ∧ T.lo - T.us.length ≤ v ∧ v ≤ T.hi := by
  have hh : T.hi = T.lo + T.cs.length - 1 := rfl
  obtain ⟨r', v', h1, h2, h3, h4, h5⟩ := fil_last (P := fun n => !decide (T.has n = T.U n)) (lo := T.lo - T.us.length) (n := T.cs.length + T.us.length + T.us.length) (by rw [h]; simp)
  rw [h] at h1
  have e : v = v' := by
    have := congrArg List.getLast? h1
    simpa using this
  subst e
  have h4' : T.has v ≠ T.U v := by simpa using h4
  have hv : v ≤ T.hi := by
    rcases Int.lt_or_le T.hi v with q | q
    · exact absurd (Tl.above q) h4'
    · exact q
  refine ⟨h4', fun n hn => ?_, h2, hv⟩
  rcases Int.lt_or_le T.hi n with q | q
  · exact Tl.above q
  · have := h5 n hn (by push_cast; omega)
    simpa using this
theorem bottoms_first {T : Tl} (ok : T.Ok) (ex : ∃ n, T.has n ≠ T.U n) : ∃ b, (fil (fun n => !decide (T.has n = T.D n)) (T.lo - T.us.length) (T.cs.length + T.us.length + T.us.length))[0]? = some b ∧ T.has b ≠ T.D b ∧ (∀ n, n < b → T.has n = T.D n) ∧ T.lo ≤ b := by
  have hh : T.hi = T.lo + T.cs.length - 1 := rfl
  have hm : T.m = T.us.length := rfl
  have hx : ∃ x, T.lo - T.us.length ≤ x ∧ x < T.lo - T.us.length + ((T.cs.length + T.us.length + T.us.length : Nat) : Int) ∧ (!decide (T.has x = T.D x)) = true := by
    refine Classical.byContradiction fun no => ?_
    have all : ∀ n, T.lo ≤ n → n ≤ T.hi + T.us.length → T.has n = T.D n := fun n h1 h2 => by
      refine Classical.byContradiction fun z => no ⟨n, by omega, by push_cast; omega, by simpa using z⟩
    obtain ⟨w, w1, w2, w3⟩ := Tl.parts ok ex fun n h1 h2 => all n h1 (by omega)
    refine w3 ?_
    rw [← Tl.above w1]
    exact all w (by omega) (by omega)
  obtain ⟨b, h0, h1, h2, h3, h4⟩ := fil_first hx
  have h3' : T.has b ≠ T.D b := by simpa using h3
  have hb : T.lo ≤ b := by
    rcases Int.lt_or_le b T.lo with q | q
    · exact absurd (Tl.below q) h3'
    · exact q
  refine ⟨b, h0, h3', fun n hn => ?_, hb⟩
  rcases Int.lt_or_le n T.lo with q | q
  · exact Tl.below q
  · have := h4 n (by omega) hn
    simpa using this
end My
set_option Elab.async false
set_option linter.all false
set_option maxRecDepth 100000
set_option maxHeartbeats 8000000
namespace My
open PySem PySem.Spec PyProof.Rows L2
local macro_rules | `(tactic| walk_at "lv") => `(tactic| first | exact Or.inl rfl | exact Or.inr rfl)
/-- the names of built-ins that the text does not take for itself -/
structure Nb (mg : Str → Option Value) : Prop where
  int : mg "int" = none
  bool : mg "bool" = none
  str : mg "str" = none
  list : mg "list" = none
  tuple : mg "tuple" = none
  isinstance : mg "isinstance" = none
  enumerate : mg "enumerate" = none
  abs : mg "abs" = none
  len : mg "len" = none
  range : mg "range" = none
  min : mg "min" = none
  all : mg "all" = none
  any : mg "any" = none
  verr : mg "ValueError" = none
section
variable {P : Program} {w : World} {K : PySem.W.Frag} {mg : Str → Option Value} {base : Heap}
/-! ### is_whole -/
def spWhole : Sp := fun vs H Q _ => ∃ a : Int, vs = [.int a] ∧ Q (.bl true) H
abbrev s_whole : Stmt := top 4
abbrev N_whole : List Str := ["thing"]
theorem sc_whole : FnScope N_whole ["thing"] (defScope s_whole) := ⟨rfl, rfl, rfl, by decide +kernel, rfl, by decide +kernel, by decide +kernel⟩
theorem kp_whole (F : At K mg "is_whole" s_whole) (N : Nb mg) : Keeps CX0 P w K mg base "is_whole" 1 ["thing"] spWhole := by
  refine keeps_of F sc_whole (fun _ _ _ _ _ _ us hl => match us, hl with | [_], _ => rfl) (fun vs H Q E h => ?_) (fun f cdv A outer s H vs Q E hr h => ?_)
  · obtain ⟨a, rfl, _⟩ := h
    rfl
  · obtain ⟨a, rfl, k⟩ := h
    refine ⟨_, (pss_one (ps_ret (pe_and (pe_callB call_isi (by rfl) N.isinstance boot_isinstance (pa_cons (pv 0) (pa_cons (pe_bltn (v := .ty "int") (by rfl) N.int (by decide +kernel) rfl) pa_nil))) (pe_one (pe_not (pe_callB call_isi (by rfl) N.isinstance boot_isinstance (pa_cons (pv 0) (pa_cons (pe_bltn (v := .ty "bool") (by rfl) N.bool (by decide +kernel) rfl) pa_nil)))))))), ?_⟩
    refine ⟨_, rfl, .int a, .ty "int", _, _, true, rfl, .ty "int", .base (.int a), kit_ty (by decide +kernel), _, rfl, ?_⟩
    exact ⟨_, rfl, .int a, .ty "bool", _, _, false, rfl, .ty "bool", .base (.int a), kit_ty (by decide +kernel), _, rfl, k⟩
/-! ### is_whole_from -/
def spWholeF : Sp := fun vs H Q _ => ∃ a lo hi : Int, vs = [.int a, .int lo, .int hi] ∧ Q (.bl (decide (lo ≤ a) && decide (a ≤ hi))) H
abbrev s_wholeF : Stmt := top 5
abbrev N_wholeF : List Str := ["thing", "low", "high"]
theorem sc_wholeF : FnScope N_wholeF ["thing", "low", "high"] (defScope s_wholeF) := ⟨rfl, rfl, rfl, by decide +kernel, rfl, by decide +kernel, by decide +kernel⟩
theorem kp_wholeF (F : At K mg "is_whole_from" s_wholeF) (G : Keeps CX0 P w K mg base "is_whole" 1 ["thing"] spWhole) : Keeps CX0 P w K mg base "is_whole_from" 2 ["thing", "low", "high"] spWholeF := by
  refine keeps_of F sc_wholeF (fun _ _ _ _ _ _ us hl => match us, hl with | [_, _, _], _ => rfl) (fun vs H Q E h => ?_) (fun f cdv A outer s H vs Q E hr h => ?_)
  · obtain ⟨a, lo, hi, rfl, _⟩ := h
    rfl
  · obtain ⟨a, lo, hi, rfl, k⟩ := h
    refine ⟨_, (pss_one (ps_ret (pe_and (pe_k G hr (by rfl) pass0 (pa_cons (pv 0) pa_nil)) (pe_one (pe_chain op_le op_le (pv 1) (pv 0) (pv 2)))))), ?_⟩
    refine ⟨_, rfl, a, rfl, _, rfl, ?_⟩
    refine ⟨_, rfl, _, rfl, _, _, rfl, rfl, _, rfl, ?_⟩
    by_cases h1 : lo ≤ a
    · rw [decide_eq_true h1] at k ⊢
      exact ⟨_, rfl, _, _, rfl, rfl, k⟩
    · rw [decide_eq_false h1] at k ⊢
      exact k
end
end My
set_option Elab.async false
set_option linter.all false
set_option maxRecDepth 100000
set_option maxHeartbeats 8000000
namespace My
open PySem PySem.Spec PyProof.Rows L2
local macro_rules | `(tactic| walk_at "lv") => `(tactic| first | exact Or.inl rfl | exact Or.inr rfl)
/-- a list or a tuple -/
def SqA (H : Hp) (a : Addr) (xs : List V) : Prop := H a = some (.lst xs) ∨ H a = some (.tup xs)
theorem SqA.same {H H' : Hp} {a : Addr} {xs : List V} (s : Same H H') (h : SqA H a xs) : SqA H' a xs := h.elim (fun h => .inl (s _ _ h)) fun h => .inr (s _ _ h)
theorem SqA.keep {H H' : Hp} {a : Addr} {xs : List V} (s : Same H H') (h : SqA H a xs) : H' a = H a := h.elim (fun h => by rw [s _ _ h, h]) fun h => by rw [s _ _ h, h]
theorem same_new {H H1 : Hp} {p : Addr} {o : HO} (s : Same H H1) (hp : H1 p = none) : Same H (upd H1 p o) := fun b u e => by
  rw [upd_ne (ne_of_none (s _ _ e) hp)]
  exact s _ _ e
/-- a walk of a name's list or tuple -/
def iSeqV (i : Nat) : TI := fun σ H R => ∃ a xs, σ[i]? = some (some (.ref a)) ∧ SqA H a xs ∧ ∀ J, Walk J xs.length (fun H' => H' a = H a) (YAt xs) → R J H
theorem pi_seqV {X : Cx} {tg l : Expr} {i : Nat} (h : PE X l (tVar i)) : PI X tg l (iSeqV i) := ⟨fun pins s σ H R I q => by
  obtain ⟨a, xs, e, hs, k⟩ := q
  rcases hs with hs | hs
  · exact (pi_list h).run pins s σ H R I ⟨.ref a, e, a, rfl, ⟨xs, SqL.of hs⟩, k _ (walk_list.mono (fun H' e => SqL.of (e.trans hs)) fun _ _ _ _ _ _ y => y)⟩
  · exact (pi_tup h).run pins s σ H R I ⟨.ref a, e, a, rfl, ⟨xs, SqT.of hs⟩, k _ (walk_tup.mono (fun H' e => SqT.of (e.trans hs)) fun _ _ _ _ _ _ y => y)⟩⟩
section
variable {P : Program} {w : World} {K : PySem.W.Frag} {mg : Str → Option Value} {base : Heap}
/-! ### is_sequence -/
def spSeq : Sp := fun vs H Q _ => ∃ a xs, vs = [.ref a] ∧ SqA H a xs ∧ ∀ H', Same H H' → Q (.bl true) H'
abbrev s_seq : Stmt := top 6
abbrev N_seq : List Str := ["thing"]
theorem sc_seq : FnScope N_seq ["thing"] (defScope s_seq) := ⟨rfl, rfl, rfl, by decide +kernel, rfl, by decide +kernel, by decide +kernel⟩
theorem kp_seq (F : At K mg "is_sequence" s_seq) (N : Nb mg) : Keeps CX0 P w K mg base "is_sequence" 1 ["thing"] spSeq := by
  refine keeps_of F sc_seq (fun _ _ _ _ _ _ us hl => match us, hl with | [_], _ => rfl) (fun vs H Q E h => ?_) (fun f cdv A outer s H vs Q E hr h => ?_)
  · obtain ⟨a, xs, rfl, _⟩ := h
    rfl
  · obtain ⟨a, xs, rfl, hs, k⟩ := h
    refine ⟨_, (pss_one (ps_ret (pe_callB call_isiT (by rfl) N.isinstance boot_isinstance (pa_cons (pv 0) (pa_cons (pe_tup (pa_cons (pe_bltn (v := .ty "list") (by rfl) N.list (by decide +kernel) rfl) (pa_cons (pe_bltn (v := .ty "tuple") (by rfl) N.tuple (by decide +kernel) rfl) pa_nil))) pa_nil))))), ?_⟩
    refine ⟨_, rfl, ⟨(by show 2 ≤ sizeLine; decide), fun t ht => ?_⟩⟩
    have s1 := same_new (o := .tup [V.ty "list", V.ty "tuple"]) (Same.refl H) ht
    rcases hs with hs | hs
    · exact ⟨.ref a, t, [.ty "list", .ty "tuple"], _, _, true, rfl, upd_same, .cons (.ty _) (.cons (.ty _) .nil), .base (.lst (s1 _ _ hs)), kitAny_cons (b := true) (kit_ty (by decide +kernel)) (fun z => nomatch z) (fun _ => rfl), k _ s1⟩
    · exact ⟨.ref a, t, [.ty "list", .ty "tuple"], _, _, true, rfl, upd_same, .cons (.ty _) (.cons (.ty _) .nil), .base (.tup (s1 _ _ hs)), kitAny_cons (b := false) (kit_ty (by decide +kernel)) (fun _ => kitAny_cons (b := true) (kit_ty (by decide +kernel)) (fun z => nomatch z) (fun _ => rfl)) (fun z => nomatch z), k _ s1⟩
/-! ### _check_core -/
def spCore : Sp := fun vs H Q _ => ∃ lo hi : Int, vs = [.int lo, .int hi] ∧ -20000 ≤ lo ∧ hi ≤ 20000 ∧ lo ≤ hi + 1 ∧ Q .non H
abbrev s_core : Stmt := top 21
abbrev N_core : List Str := ["low", "high"]
theorem sc_core : FnScope N_core ["low", "high"] (defScope s_core) := ⟨rfl, rfl, rfl, by decide +kernel, rfl, by decide +kernel, by decide +kernel⟩
theorem kp_core (F : At K mg "_check_core" s_core) (G : Keeps CX0 P w K mg base "is_whole" 1 ["thing"] spWhole) (mF : ∃ t, mg "FARTHEST" = some (.int 20000 t)) : Keeps CX0 P w K mg base "_check_core" 2 ["low", "high"] spCore := by
  refine keeps_of F sc_core (fun _ _ _ _ _ _ us hl => match us, hl with | [_, _], _ => rfl) (fun vs H Q E h => ?_) (fun f cdv A outer s H vs Q E hr h => ?_)
  · obtain ⟨lo, hi, rfl, _⟩ := h
    rfl
  · obtain ⟨lo, hi, rfl, h1, h2, h3, k⟩ := h
    obtain ⟨t, mF⟩ := mF
    refine ⟨_, (pss_cons (ps_if (PW.pt (pw_or (pt_not (pt_val (pe_k G hr (by rfl) pass0 (pa_cons (pv 0) pa_nil)))) (pw_or1 (pt_not (pt_val (pe_k G hr (by rfl) pass0 (pa_cons (pv 1) pa_nil))))))) (pss_one ps_never) pss_nil)
        (pss_one (ps_if (PW.pt (pw_or (pt_cmpR op_lt (pv 0) (pe_un un_neg (pe_glob (v := .int 20000) (by rfl) mF ⟨_, rfl⟩)) (nomark _)) (pw_or (pt_cmpR op_gt (pv 1) (pe_glob (v := .int 20000) (by rfl) mF ⟨_, rfl⟩) (nomark _)) (pw_or1 (pt_cmpR op_gt (pv 0) (pe_op op_add (pv 1) pe_int) (nomark _)))))) (pss_one ps_never) pss_nil))), ?_⟩
    refine ⟨_, rfl, lo, rfl, _, rfl, iteF ⟨_, rfl, hi, rfl, _, rfl, iteF ?_⟩⟩
    refine ⟨_, rfl, _, rfl, _, _, rfl, rfl, _, rfl, ?_⟩
    rw [decide_eq_false (by omega : ¬ lo < -20000)]
    refine iteF ⟨_, rfl, _, _, rfl, rfl, _, rfl, ?_⟩
    rw [decide_eq_false (by omega : ¬ hi > 20000)]
    refine iteF ⟨_, rfl, _, rfl, _, _, rfl, rfl, _, _, rfl, rfl, _, rfl, ?_⟩
    rw [decide_eq_false (by omega : ¬ lo > hi + 1)]
    exact iteF k
/-! ### _are_unlike_from -/
def spUnl : Sp := fun vs H Q _ => ∃ (a : Addr) (ns : List Int) (lo hi : Int), vs = [.ref a, .int lo, .int hi] ∧ SqA H a (ns.map V.int) ∧ ns.Nodup ∧ ns.length ≤ 1000 ∧ (∀ n ∈ ns, lo ≤ n ∧ n ≤ hi) ∧ ∀ H', Same H H' → Q (.bl true) H'
abbrev s_unl : Stmt := top 22
abbrev N_unl : List Str := ["numbers", "low", "high", "seen", "number"]
theorem sc_unl : FnScope N_unl ["numbers", "low", "high"] (defScope s_unl) := ⟨rfl, rfl, rfl, by decide +kernel, rfl, by decide +kernel, by decide +kernel⟩
theorem kp_unl (F : At K mg "_are_unlike_from" s_unl) (G : Keeps CX0 P w K mg base "is_whole_from" 2 ["thing", "low", "high"] spWholeF) (G2 : Keeps CX0 P w K mg base "is_sequence" 1 ["thing"] spSeq) :
    Keeps CX0 P w K mg base "_are_unlike_from" 3 ["numbers", "low", "high"] spUnl := by
  refine keeps_of F sc_unl (fun _ _ _ _ _ _ us hl => match us, hl with | [_, _, _], _ => rfl) (fun vs H Q E h => ?_) (fun f cdv A outer s H vs Q E hr h => ?_)
  · obtain ⟨a, ns, lo, hi, rfl, _⟩ := h
    rfl
  · obtain ⟨a, ns, lo, hi, rfl, hs, nd, hl, hb, k⟩ := h
    have hu := hu_of hr
    refine ⟨_, (pss_cons (ps_if (pt_not (pt_val (pe_k G2 (hr.mono (by decide)) (by rfl) pass0 (pa_cons (pv 0) pa_nil)))) (pss_one (ps_ret pe_bl)) pss_nil)
        (pss_cons (ps_set (i := 3) sc_unl.nd rfl (by walk_at "lv") pe_dnewK)
        (pss_cons (ps_for PassesOwn.never rfl (pi_seqV (pv 0)) (pg_name (i := 4) sc_unl.nd rfl (by walk_at "lv")) (pss_cons (ps_if (PW.pt (pw_or (pt_not (pt_val (pe_k G hr (by rfl) pass0 (pa_cons (pv 4) (pa_cons (pv 1) (pa_cons (pv 2) pa_nil)))))) (pw_or1 (pt_cmp (pc_din hu (pv 4) (pv 3)))))) (pss_one (ps_ret pe_bl)) pss_nil)
        (pss_one (ps_dput hu (pv 3) (pv 4) pe_bl rfl))))
        (pss_one (ps_ret pe_bl))))), ?_⟩
    refine ⟨_, rfl, a, _, rfl, hs, fun H1 s1 => ⟨_, rfl, iteF ?_⟩⟩
    intro d hd
    have s2 := same_new (o := .dK []) s1 hd
    refine ⟨a, _, rfl, hs.same s2, fun J wk => for_it wk (fun i σ H2 => ∃ x kvs, σ = [some (.ref a), some (.int lo), some (.int hi), some (.ref d), x] ∧ H2 d = some (.dK kvs) ∧ kvs.length ≤ i ∧ (∀ n : Int, (valV kvs (Sum.inl n)).isSome = true → n ∈ ns.take i) ∧ Same H H2 ∧ (∀ b o, b ≠ d → upd H1 d (.dK []) b = some o → H2 b = some o))
      ⟨_, [], rfl, upd_same, Nat.le_refl 0, (fun n h => by simp [valV_nil] at h), s2, fun b o _ e => e⟩ (fun i σ H2 _ ⟨_, _, _, _, _, _, s3, _⟩ => by rw [hs.keep s3, hs.keep s2]) ?_ ?_⟩
    · rintro i v σ H2 H3 hi' ⟨x, kvs, rfl, e1, e2, e3, s3, b3⟩ ⟨rfl, e4⟩
      obtain ⟨n, hn, rfl⟩ := int_at e4
      have hmem := List.mem_of_getElem? hn
      have hbn := hb n hmem
      refine ⟨_, rfl, _, rfl, _, rfl, n, lo, hi, rfl, ?_⟩
      rw [decide_eq_true hbn.1, decide_eq_true hbn.2]
      refine ⟨_, rfl, iteF ⟨_, rfl, _, rfl, d, _, rfl, DGet.k (k := Sum.inl n) e1, _, rfl, ?_⟩⟩
      have hnone : valV kvs (Sum.inl n) = none := by
        cases e : valV kvs (Sum.inl n) with
        | none => rfl
        | some y =>
          have q := e3 n (by rw [e]; rfl)
          obtain ⟨j, hj, hj2⟩ := List.mem_take_iff_getElem.mp q
          obtain ⟨hi3, hi4⟩ := List.getElem?_eq_some_iff.mp hn
          exact absurd (hj2.trans hi4.symm) (List.pairwise_iff_getElem.mp nd j i (by omega) hi3 (by omega))
      rw [hnone]
      have hi1000 : i < 1000 := by rw [List.length_map] at hi'; omega
      refine iteF ⟨_, rfl, _, rfl, d, _, rfl, DPut.k (k := Sum.inl n) e1 (small1000 (by omega)), ?_⟩
      have hdn : H1 d = none := hd
      refine ⟨_, _, rfl, upd_same, Nat.le_trans (length_putK _ _ _) (by omega), fun m hm => ?_, fun b o e => ?_, fun b o hb' e => ?_⟩
      · rw [valV_put] at hm
        obtain ⟨hi3, hi4⟩ := List.getElem?_eq_some_iff.mp hn
        rw [List.take_succ_eq_append_getElem hi3]
        by_cases q : (Sum.inl m : Key) = Sum.inl n
        · cases q
          exact List.mem_append_right _ (by rw [hi4]; exact List.mem_singleton.mpr rfl)
        · rw [if_neg q] at hm
          exact List.mem_append_left _ (e3 m hm)
      · have hbd : b ≠ d := ne_of_none (s1 _ _ e) hdn
        rw [upd_ne hbd]
        exact s3 b o e
      · rw [upd_ne hb']
        exact b3 b o hb' e
    · rintro σ H2 ⟨x, kvs, rfl, e1, e2, e3, s3, b3⟩
      exact k _ s3
end
end My
set_option Elab.async false
set_option linter.all false
set_option maxRecDepth 100000
set_option maxHeartbeats 8000000
namespace My
open PySem PySem.Spec PyProof.Rows L2
local macro_rules | `(tactic| walk_at "lv") => `(tactic| first | exact Or.inl rfl | exact Or.inr rfl)
/-! ### the class Lot -/
def lotF (lo hi m : Int) (a b c : Addr) : List (Str × V) := putF "downs" (.ref c) (putF "ups" (.ref b) (putF "modulus" (.int m) (putF "inside" (.ref a) (putF "high" (.int hi) (putF "low" (.int lo) [])))))
section
variable {lo hi m : Int} {a b c : Addr}
theorem lf_low : (lotF lo hi m a b c).lookup ("low" : Str) = some (.int lo) := by
  unfold lotF
  rw [lookup_putF, if_neg (by decide +kernel), lookup_putF, if_neg (by decide +kernel), lookup_putF, if_neg (by decide +kernel), lookup_putF, if_neg (by decide +kernel), lookup_putF, if_neg (by decide +kernel), lookup_putF, if_pos rfl]
theorem lf_high : (lotF lo hi m a b c).lookup ("high" : Str) = some (.int hi) := by
  unfold lotF
  rw [lookup_putF, if_neg (by decide +kernel), lookup_putF, if_neg (by decide +kernel), lookup_putF, if_neg (by decide +kernel), lookup_putF, if_neg (by decide +kernel), lookup_putF, if_pos rfl]
theorem lf_inside : (lotF lo hi m a b c).lookup ("inside" : Str) = some (.ref a) := by
  unfold lotF
  rw [lookup_putF, if_neg (by decide +kernel), lookup_putF, if_neg (by decide +kernel), lookup_putF, if_neg (by decide +kernel), lookup_putF, if_pos rfl]
theorem lf_modulus : (lotF lo hi m a b c).lookup ("modulus" : Str) = some (.int m) := by
  unfold lotF
  rw [lookup_putF, if_neg (by decide +kernel), lookup_putF, if_neg (by decide +kernel), lookup_putF, if_pos rfl]
theorem lf_ups : (lotF lo hi m a b c).lookup ("ups" : Str) = some (.ref b) := by
  unfold lotF
  rw [lookup_putF, if_neg (by decide +kernel), lookup_putF, if_pos rfl]
theorem lf_downs : (lotF lo hi m a b c).lookup ("downs" : Str) = some (.ref c) := by
  unfold lotF
  rw [lookup_putF, if_pos rfl]
end
/-- a Lot stands at p -/
def LotAt (C : Addr) (H : Hp) (p : Addr) (lo hi : Int) (ins : List Int) (m : Nat) (us ds : List Int) : Prop :=
  ∃ dx a b c, H p = some (.ins C dx (lotF lo hi m a b c)) ∧ H a = some (.tup (ins.map V.int)) ∧ H b = some (.tup (us.map V.int)) ∧ H c = some (.tup (ds.map V.int))
theorem LotAt.same {C : Addr} {H H' : Hp} {p : Addr} {lo hi : Int} {ins us ds : List Int} {m : Nat} (s : Same H H') (h : LotAt C H p lo hi ins m us ds) : LotAt C H' p lo hi ins m us ds := by
  obtain ⟨dx, a, b, c, h1, h2, h3, h4⟩ := h
  exact ⟨dx, a, b, c, s _ _ h1, s _ _ h2, s _ _ h3, s _ _ h4⟩
structure LotTxt (K : PySem.W.Frag) (mg : Str → Option Value) (C : Addr) : Prop where
  cl : Cls K C
  n1 : NoAttr K C "low"
  n2 : NoAttr K C "high"
  n3 : NoAttr K C "inside"
  n4 : NoAttr K C "modulus"
  n5 : NoAttr K C "ups"
  n6 : NoAttr K C "downs"
  mgC : mg "Lot" = some (.ref C)
  (ha : PySem.W.findIn K (.ref C) "__class__" = some (some (.builtin "object.__class__"))) (hn : PySem.W.specialIn K (.builtin "object.__class__") "__get__" = some (some (.builtin "getset_descriptor.__get__")))
  (ht : PySem.W.takesIn K (.builtin "object.__class__") = some true) (hm : PySem.W.mroIn K C (.type "object") = some true)
  notStr : PySem.W.kitOne K (.ref C) (.type "str") = some false
  isLot : PySem.W.kitOne K (.ref C) (.ref C) = some true
/-- a def of the class at C, as it stands -/
def AtM (K : PySem.W.Frag) (C : Addr) (g : Addr) (nm q : Str) (st : Stmt) : Prop := ∃ fd, FunD K nm q (defArgs st) (defBody st) (defScope st) [] [] g fd
def KeepsM (P : Program) (w : World) (K : PySem.W.Frag) (mg : Str → Option Value) (base : Heap) (g : Addr) (k : Nat) (ps : List Str) (sp : Sp) : Prop :=
  ∃ fd, FnOk P w K mg base CX0 k g fd ps sp ∧ Binds K fd ps []
section
variable {P : Program} {w : World} {K : PySem.W.Frag} {mg : Str → Option Value} {base : Heap}
abbrev bindsM (st : Stmt) (nm q : Str) (ps : List Str) : Prop := ∀ (kV doc pm : Value) (an : Option Addr) (cdv ct : Value) (us : List Value), us.length = ps.length → bindArgs (PySem.W.fnOf nm q (defArgs st) (defBody st) (defScope st) .none kV doc pm an cdv ct) ⟨us, []⟩ = pure (ps.zip us)
theorem keepsM_of {C g : Addr} {nm q : Str} {st : Stmt} {N ps : List Str} {k : Nat} {sp : Sp} (F : AtM K C g nm q st) (S : FnScope N ps (defScope st)) (hb : bindsM st nm q ps) (len : ∀ vs H Q E, sp vs H Q E → vs.length = ps.length)
    (hbody : ∀ (cdv : Value) (A : Around) (outer : List Env) (s : Shared) (H : Hp) (vs : List V) (Q : VK) (E : XK), Room k (A.deeper (envOfC q (defScope st) s.heap.objs.size g cdv)) → sp vs H Q E →
      ∃ t, PSs (cxOf CX0 P w K mg base N q (defScope st) g cdv A outer s H E).nox (defBody st) t ∧ t { nx := fun _ H' => Q .non H', rt := Q } (start N vs) H) : KeepsM P w K mg base g (k + 1) ps sp := by
  obtain ⟨fd, F⟩ := F
  refine ⟨fd, F.ok S len (fun cdv A outer s H vs Q E hr h => ?_), F.bindsN hb⟩
  obtain ⟨t, h1, h2⟩ := hbody cdv A outer s H vs Q E hr h
  exact ⟨t, h1.nox, h2⟩
/-! ### Lot.__init__ -/
def spLotI (C : Addr) : Sp := fun vs H Q _ => ∃ (p dx a b c : Addr) (lo hi : Int) (m : Nat) (ins us ds : List Int), vs = [.ref p, .int lo, .int hi, .ref a, .int m, .ref b, .ref c] ∧ H p = some (.ins C dx []) ∧
  H a = some (.lst (ins.map V.int)) ∧ H b = some (.lst (us.map V.int)) ∧ H c = some (.lst (ds.map V.int)) ∧
  ∀ H', LotAt C H' p lo hi ins m us ds → (∀ x o, x ≠ p → H x = some o → H' x = some o) → Q .non H'
abbrev s_lotI : Stmt := inClass (top 19) 0
abbrev N_lotI : List Str := ["self", "low", "high", "inside", "modulus", "ups", "downs"]
theorem sc_lotI : FnScope N_lotI ["self", "low", "high", "inside", "modulus", "ups", "downs"] (defScope s_lotI) := ⟨rfl, rfl, rfl, by decide +kernel, rfl, by decide +kernel, by decide +kernel⟩
theorem putF_small {f : Str} {v : V} {fs : List (Str × V)} {n : Nat} (h : fs.length ≤ n) : (putF f v fs).length ≤ n + 1 := Nat.le_trans (length_putF f v fs) (by omega)
theorem kp_lotI {C g : Addr} (F : AtM K C g "__init__" "Lot.__init__" s_lotI) (T : LotTxt K mg C) (N : Nb mg) : KeepsM P w K mg base g 1 ["self", "low", "high", "inside", "modulus", "ups", "downs"] (spLotI C) := by
  refine keepsM_of F sc_lotI (fun _ _ _ _ _ _ us hl => match us, hl with | [_, _, _, _, _, _, _], _ => rfl) (fun vs H Q E h => ?_) (fun cdv A outer s H vs Q E hr h => ?_)
  · obtain ⟨p, dx, a, b, c, lo, hi, m, ins, us, ds, rfl, _⟩ := h
    rfl
  · obtain ⟨p, dx, a, b, c, lo, hi, m, ins, us, ds, rfl, hp, ha, hb, hc, k⟩ := h
    refine ⟨_, (pss_cons (ps_fld (pv 0) (pv 1) rfl)
        (pss_cons (ps_fld (pv 0) (pv 2) rfl)
        (pss_cons (ps_fld (pv 0) (pe_callTy call_tuple_of (by rfl) N.tuple (by decide +kernel) (pa_cons (pv 3) pa_nil)) rfl)
        (pss_cons (ps_fld (pv 0) (pv 4) rfl)
        (pss_cons (ps_fld (pv 0) (pe_callTy call_tuple_of (by rfl) N.tuple (by decide +kernel) (pa_cons (pv 5) pa_nil)) rfl)
        (pss_one (ps_fld (pv 0) (pe_callTy call_tuple_of (by rfl) N.tuple (by decide +kernel) (pa_cons (pv 6) pa_nil)) rfl))))))), ?_⟩
    have pa : a ≠ p := ne_of ha hp (by intro z; cases z)
    have pb : b ≠ p := ne_of hb hp (by intro z; cases z)
    have pc : c ≠ p := ne_of hc hp (by intro z; cases z)
    have f1 : (putF "low" (V.int lo) []).length ≤ 1 := putF_small (Nat.le_refl 0)
    have f2 := putF_small (f := "high") (v := V.int hi) f1
    refine ⟨_, rfl, _, rfl, p, C, dx, _, rfl, hp, T.cl, T.n1, (by show 0 < 1000; decide), ?_⟩
    refine ⟨_, rfl, _, rfl, p, C, dx, _, rfl, upd_same, T.cl, T.n2, (by omega), ?_⟩
    refine ⟨_, rfl, a, _, rfl, .inl ⟨SqL.of (by rw [upd_ne pa, upd_ne pa]; exact ha), fun l1 hl1 => ?_⟩⟩
    have pl1 : p ≠ l1 := ne_of_none upd_same hl1
    have f3 := putF_small (f := "inside") (v := V.ref l1) f2
    have f4 := putF_small (f := "modulus") (v := V.int m) f3
    refine ⟨_, rfl, p, C, dx, _, rfl, (by rw [upd_ne pl1]; exact upd_same), T.cl, T.n3, (by omega), ?_⟩
    refine ⟨_, rfl, _, rfl, p, C, dx, _, rfl, upd_same, T.cl, T.n4, (by omega), ?_⟩
    have bl1 : b ≠ l1 := ne_of_none (by rw [upd_ne pb, upd_ne pb]; exact hb) hl1
    have cl1 : c ≠ l1 := ne_of_none (by rw [upd_ne pc, upd_ne pc]; exact hc) hl1
    refine ⟨_, rfl, b, _, rfl, .inl ⟨SqL.of (by rw [upd_ne pb, upd_ne pb, upd_ne bl1, upd_ne pb, upd_ne pb]; exact hb), fun l2 hl2 => ?_⟩⟩
    have pl2 : p ≠ l2 := ne_of_none upd_same hl2
    have l12 : l1 ≠ l2 := ne_of_none (by rw [upd_ne pl1.symm, upd_ne pl1.symm]; exact upd_same) hl2
    have cl2 : c ≠ l2 := ne_of_none (by rw [upd_ne pc, upd_ne pc, upd_ne cl1, upd_ne pc, upd_ne pc]; exact hc) hl2
    have f5 := putF_small (f := "ups") (v := V.ref l2) f4
    refine ⟨_, rfl, p, C, dx, _, rfl, (by rw [upd_ne pl2]; exact upd_same), T.cl, T.n5, (by omega), ?_⟩
    refine ⟨_, rfl, c, _, rfl, .inl ⟨SqL.of (by rw [upd_ne pc, upd_ne cl2, upd_ne pc, upd_ne pc, upd_ne cl1, upd_ne pc, upd_ne pc]; exact hc), fun l3 hl3 => ?_⟩⟩
    have pl3 : p ≠ l3 := ne_of_none upd_same hl3
    have l13 : l1 ≠ l3 := ne_of_none (by rw [upd_ne pl1.symm, upd_ne l12, upd_ne pl1.symm, upd_ne pl1.symm]; exact upd_same) hl3
    have l23 : l2 ≠ l3 := ne_of_none (by rw [upd_ne pl2.symm]; exact upd_same) hl3
    refine ⟨_, rfl, p, C, dx, _, rfl, (by rw [upd_ne pl3]; exact upd_same), T.cl, T.n6, (by omega), ?_⟩
    refine k _ ⟨dx, l1, l2, l3, upd_same, ?_, ?_, ?_⟩ fun x o hx e => ?_
    · rw [upd_ne pl1.symm, upd_ne l13, upd_ne pl1.symm, upd_ne l12, upd_ne pl1.symm, upd_ne pl1.symm]; exact upd_same
    · rw [upd_ne pl2.symm, upd_ne l23, upd_ne pl2.symm]; exact upd_same
    · rw [upd_ne pl3.symm]; exact upd_same
    · have x1 : x ≠ l1 := ne_of_none (by rw [upd_ne hx, upd_ne hx]; exact e) hl1
      have x2 : x ≠ l2 := ne_of_none (by rw [upd_ne hx, upd_ne hx, upd_ne x1, upd_ne hx, upd_ne hx]; exact e) hl2
      have x3 : x ≠ l3 := ne_of_none (by rw [upd_ne hx, upd_ne x2, upd_ne hx, upd_ne hx, upd_ne x1, upd_ne hx, upd_ne hx]; exact e) hl3
      rw [upd_ne hx, upd_ne x3, upd_ne hx, upd_ne x2, upd_ne hx, upd_ne hx, upd_ne x1, upd_ne hx, upd_ne hx]; exact e
end
end My
set_option Elab.async false
set_option linter.all false
set_option maxRecDepth 100000
set_option maxHeartbeats 8000000
namespace My
open PySem PySem.Spec PyProof.Rows L2
local macro_rules | `(tactic| walk_at "lv") => `(tactic| first | exact Or.inl rfl | exact Or.inr rfl)
/-! ### data of ints and bools -/
theorem dp_ints {K : PySem.W.Frag} {H : Hp} : ∀ ns : List Int, DpAll K H (ns.map V.int) (ns.map PyData.int)
  | [] => .nil
  | n :: r => .cons (.int n) (dp_ints r)
theorem lay_ints : ∀ ns : List Int, PyData.canLayAll0 (ns.map PyData.int) = true ∧ PyData.depthAll (ns.map PyData.int) = 0
  | [] => ⟨rfl, rfl⟩
  | n :: r => by
    obtain ⟨h1, h2⟩ := lay_ints r
    exact ⟨by show (_ && _) = true; rw [h1]; rfl, by show max _ _ = 0; rw [h2]; rfl⟩
theorem eqv_ints : ∀ ns ms : List Int, PyData.eqvAll (ns.map PyData.int) (ms.map PyData.int) = decide (ns = ms)
  | [], [] => by simp [PyData.eqvAll]
  | [], _ :: _ => by simp [PyData.eqvAll]
  | _ :: _, [] => by simp [PyData.eqvAll]
  | n :: r, m :: t => by
    show (PyData.eqv (.int n) (.int m) && PyData.eqvAll (r.map PyData.int) (t.map PyData.int)) = _
    rw [eqv_ints r t]
    show ((n == m) && _) = _
    by_cases h : n = m
    · subst h; simp
    · simp [h]
theorem dp_bls {K : PySem.W.Frag} {H : Hp} : ∀ ns : List Bool, DpAll K H (ns.map V.bl) (ns.map PyData.bool)
  | [] => .nil
  | n :: r => .cons (.bl n) (dp_bls r)
theorem lay_bls : ∀ ns : List Bool, PyData.canLayAll0 (ns.map PyData.bool) = true ∧ PyData.depthAll (ns.map PyData.bool) = 0
  | [] => ⟨rfl, rfl⟩
  | n :: r => by
    obtain ⟨h1, h2⟩ := lay_bls r
    exact ⟨by show (_ && _) = true; rw [h1]; rfl, by show max _ _ = 0; rw [h2]; rfl⟩
theorem eqv_bls : ∀ ns ms : List Bool, PyData.eqvAll (ns.map PyData.bool) (ms.map PyData.bool) = decide (ns = ms)
  | [], [] => by simp [PyData.eqvAll]
  | [], _ :: _ => by simp [PyData.eqvAll]
  | _ :: _, [] => by simp [PyData.eqvAll]
  | n :: r, m :: t => by
    show (PyData.eqv (.bool n) (.bool m) && PyData.eqvAll (r.map PyData.bool) (t.map PyData.bool)) = _
    rw [eqv_bls r t]
    show ((n == m) && _) = _
    by_cases h : n = m
    · subst h; simp
    · simp [h]
theorem shp_tup {ds : List PyData} {n : Nat} (h : PyData.canLayAll0 ds = true) (h2 : PyData.depthAll ds = n) (hn : n ≤ 63) : SeqAt.shaped (.tuple ds) = true := by
  show (_ && _) = true
  refine Bool.and_eq_true_iff.mpr ⟨h, decide_eq_true ?_⟩
  show PyData.depthAll ds + 1 ≤ 64
  omega
theorem shp_lst {ds : List PyData} {n : Nat} (h : PyData.canLayAll0 ds = true) (h2 : PyData.depthAll ds = n) (hn : n ≤ 63) : SeqAt.shaped (.list ds) = true := by
  show (_ && _) = true
  refine Bool.and_eq_true_iff.mpr ⟨h, decide_eq_true ?_⟩
  show PyData.depthAll ds + 1 ≤ 64
  omega
theorem shp_ti (ns : List Int) : SeqAt.shaped (.tuple (ns.map PyData.int)) = true := shp_tup (lay_ints ns).1 (lay_ints ns).2 (by decide)
theorem inV_ints (n : Int) : ∀ ns : List Int, inV (.int n) (ns.map V.int) = decide (n ∈ ns)
  | [] => by simp [inV]
  | m :: r => by
    show ((m == n) || inV (.int n) (r.map V.int)) = _
    rw [inV_ints n r]
    by_cases h : m = n
    · subst h; simp
    · have : ¬ n = m := fun z => h z.symm
      simp [h, this]
theorem flat_ints : ∀ ns : List Int, (ns.map V.int).all flatV = true
  | [] => rfl
  | n :: r => by
    show (_ && _) = true
    rw [flat_ints r]; rfl
theorem vdec (a b : Int) : decide (V.int a = V.int b) = decide (a = b) := by
  by_cases h : a = b
  · subst h; simp
  · simp [h]
theorem eqv_ti (a b : List Int) : PyData.eqv (.tuple (a.map PyData.int)) (.tuple (b.map PyData.int)) = decide (a = b) := eqv_ints a b
section
variable {P : Program} {w : World} {K : PySem.W.Frag} {mg : Str → Option Value} {base : Heap}
/-! ### Lot.__contains__ -/
def lotHas (lo hi : Int) (ins : List Int) (m : Nat) (us ds : List Int) (n : Int) : Bool := if hi < n then decide (n % (m : Int) ∈ us) else if n < lo then decide (n % (m : Int) ∈ ds) else decide (n ∈ ins)
def spLotC (C : Addr) : Sp := fun vs H Q _ => ∃ (p : Addr) (n lo hi : Int) (m : Nat) (ins us ds : List Int), vs = [.ref p, .int n] ∧ LotAt C H p lo hi ins m us ds ∧ 0 < m ∧ Q (.bl (lotHas lo hi ins m us ds n)) H
abbrev s_lotC : Stmt := inClass (top 19) 2
abbrev N_lotC : List Str := ["self", "number"]
theorem sc_lotC : FnScope N_lotC ["self", "number"] (defScope s_lotC) := ⟨rfl, rfl, rfl, by decide +kernel, rfl, by decide +kernel, by decide +kernel⟩
theorem kp_lotC {C g : Addr} (F : AtM K C g "__contains__" "Lot.__contains__" s_lotC) (T : LotTxt K mg C) : KeepsM P w K mg base g 1 ["self", "number"] (spLotC C) := by
  refine keepsM_of F sc_lotC (fun _ _ _ _ _ _ us hl => match us, hl with | [_, _], _ => rfl) (fun vs H Q E h => ?_) (fun cdv A outer s H vs Q E hr h => ?_)
  · obtain ⟨p, n, lo, hi, m, ins, us, ds, rfl, _⟩ := h
    rfl
  · obtain ⟨p, n, lo, hi, m, ins, us, ds, rfl, ⟨dx, a, b, c, hp, ha, hb, hc⟩, hm, k⟩ := h
    have hm' : (0 : Int) < (m : Int) := by omega
    refine ⟨_, (pss_cons (ps_if (pt_cmpR op_gt (pv 1) (pe_fld (pv 0) rfl) (nomark _)) (pss_one (ps_ret (pe_cmpR op_in_seq (pe_op op_mod (pv 1) (pe_fld (pv 0) rfl)) (pe_fld (pv 0) rfl) (by rfl)))) pss_nil)
        (pss_cons (ps_if (pt_cmpR op_lt (pv 1) (pe_fld (pv 0) rfl) (nomark _)) (pss_one (ps_ret (pe_cmpR op_in_seq (pe_op op_mod (pv 1) (pe_fld (pv 0) rfl)) (pe_fld (pv 0) rfl) (by rfl)))) pss_nil)
        (pss_one (ps_ret (pe_cmpR op_in_seq (pv 1) (pe_fld (pv 0) rfl) (by rfl)))))), ?_⟩
    unfold lotHas at k
    refine ⟨_, rfl, _, rfl, p, C, dx, _, _, rfl, hp, T.cl, T.n2, lf_high, _, _, rfl, rfl, _, rfl, ?_⟩
    refine ite2 (fun h1 => ?_) (fun h1 => ?_)
    · have h1 := of_decide_eq_true h1
      rw [if_pos h1] at k
      refine ⟨_, rfl, _, rfl, p, C, dx, _, _, rfl, hp, T.cl, T.n4, lf_modulus, _, _, rfl, rfl, hm', ?_⟩
      refine ⟨_, rfl, p, C, dx, _, _, rfl, hp, T.cl, T.n5, lf_ups, b, _, rfl, .inr (SqT.of hb), rfl, flat_ints _, ?_⟩
      show Q (.bl (inV _ _)) _
      rw [inV_ints]
      exact k
    · have h1 : ¬ hi < n := fun z => h1 (decide_eq_true z)
      rw [if_neg h1] at k
      refine ⟨_, rfl, _, rfl, p, C, dx, _, _, rfl, hp, T.cl, T.n1, lf_low, _, _, rfl, rfl, _, rfl, ?_⟩
      refine ite2 (fun h2 => ?_) (fun h2 => ?_)
      · have h2 := of_decide_eq_true h2
        rw [if_pos h2] at k
        refine ⟨_, rfl, _, rfl, p, C, dx, _, _, rfl, hp, T.cl, T.n4, lf_modulus, _, _, rfl, rfl, hm', ?_⟩
        refine ⟨_, rfl, p, C, dx, _, _, rfl, hp, T.cl, T.n6, lf_downs, c, _, rfl, .inr (SqT.of hc), rfl, flat_ints _, ?_⟩
        show Q (.bl (inV _ _)) _
        rw [inV_ints]
        exact k
      · have h2 : ¬ n < lo := fun z => h2 (decide_eq_true z)
        rw [if_neg h2] at k
        refine ⟨_, rfl, _, rfl, p, C, dx, _, _, rfl, hp, T.cl, T.n3, lf_inside, a, _, rfl, .inr (SqT.of ha), rfl, flat_ints _, ?_⟩
        show Q (.bl (inV _ _)) _
        rw [inV_ints]
        exact k
/-! ### Lot.__eq__ -/
def lotEq (lo hi : Int) (ins : List Int) (m : Int) (us ds : List Int) (lo' hi' : Int) (ins' : List Int) (m' : Int) (us' ds' : List Int) : Bool :=
  decide (lo = lo') && (decide (hi = hi') && (decide (ins = ins') && (decide (m = m') && (decide (us = us') && decide (ds = ds')))))
def spLotE (C : Addr) : Sp := fun vs H Q _ => ∃ (p q : Addr) (lo hi lo' hi' : Int) (m m' : Nat) (ins us ds ins' us' ds' : List Int), vs = [.ref p, .ref q] ∧ LotAt C H p lo hi ins m us ds ∧ LotAt C H q lo' hi' ins' m' us' ds' ∧
  Q (.bl (lotEq lo hi ins m us ds lo' hi' ins' m' us' ds')) H
abbrev s_lotE : Stmt := inClass (top 19) 1
abbrev N_lotE : List Str := ["self", "other"]
theorem sc_lotE : FnScope N_lotE ["self", "other"] (defScope s_lotE) := ⟨rfl, rfl, rfl, by decide +kernel, rfl, by decide +kernel, by decide +kernel⟩
theorem kp_lotE {C g : Addr} (F : AtM K C g "__eq__" "Lot.__eq__" s_lotE) (T : LotTxt K mg C) (N : Nb mg) : KeepsM P w K mg base g 1 ["self", "other"] (spLotE C) := by
  refine keepsM_of F sc_lotE (fun _ _ _ _ _ _ us hl => match us, hl with | [_, _], _ => rfl) (fun vs H Q E h => ?_) (fun cdv A outer s H vs Q E hr h => ?_)
  · obtain ⟨p, q, lo, hi, lo', hi', m, m', ins, us, ds, ins', us', ds', rfl, _⟩ := h
    rfl
  · obtain ⟨p, q, lo, hi, lo', hi', m, m', ins, us, ds, ins', us', ds', rfl, ⟨dx, a, b, c, hp, ha, hb, hc⟩, ⟨dx', a', b', c', hp', ha', hb', hc'⟩, k⟩ := h
    refine ⟨_, (pss_one (ps_ret (pe_and (pe_callB call_isi (by rfl) N.isinstance boot_isinstance (pa_cons (pv 1) (pa_cons (pe_glob (v := .ref C) (by rfl) T.mgC rfl) pa_nil))) (pe_and (pe_cmpR op_eq (pe_fld (pv 0) rfl) (pe_fld (pv 1) rfl) (nomark _)) (pe_and (pe_cmpR op_eq (pe_fld (pv 0) rfl) (pe_fld (pv 1) rfl) (nomark _)) (pe_and (pe_cmpR (op_eqD hr.units) (pe_fld (pv 0) rfl) (pe_fld (pv 1) rfl) (nomark _)) (pe_and (pe_cmpR op_eq (pe_fld (pv 0) rfl) (pe_fld (pv 1) rfl) (nomark _)) (pe_and (pe_cmpR (op_eqD hr.units) (pe_fld (pv 0) rfl) (pe_fld (pv 1) rfl) (nomark _)) (pe_one (pe_cmpR (op_eqD hr.units) (pe_fld (pv 0) rfl) (pe_fld (pv 1) rfl) (nomark _))))))))))), ?_⟩
    unfold lotEq at k
    refine ⟨_, rfl, .ref q, .ref C, _, _, true, rfl, .own C, .base (.ins hp' T.cl T.ha T.hn T.ht T.hm), T.isLot, _, rfl, ?_⟩
    refine ⟨_, rfl, p, C, dx, _, _, rfl, hp, T.cl, T.n1, lf_low, _, rfl, q, C, dx', _, _, rfl, hp', T.cl, T.n1, lf_low, rfl, _, rfl, ?_⟩
    rw [vdec]
    cases e : decide (lo = lo') with
    | false => rw [e] at k; exact iteF k
    | true =>
    rw [e] at k
    refine iteT ⟨_, rfl, p, C, dx, _, _, rfl, hp, T.cl, T.n2, lf_high, _, rfl, q, C, dx', _, _, rfl, hp', T.cl, T.n2, lf_high, rfl, _, rfl, ?_⟩
    rw [vdec]
    cases e : decide (hi = hi') with
    | false => rw [e] at k; exact iteF k
    | true =>
    rw [e] at k
    refine iteT ⟨_, rfl, p, C, dx, _, _, rfl, hp, T.cl, T.n3, lf_inside, _, rfl, q, C, dx', _, _, rfl, hp', T.cl, T.n3, lf_inside, _, _, .tup (SqT.of ha) (dp_ints ins), .tup (SqT.of ha') (dp_ints ins'), shp_ti _, shp_ti _, _, rfl, ?_⟩
    rw [eqv_ti]
    cases e : decide (ins = ins') with
    | false => rw [e] at k; exact iteF k
    | true =>
    rw [e] at k
    refine iteT ⟨_, rfl, p, C, dx, _, _, rfl, hp, T.cl, T.n4, lf_modulus, _, rfl, q, C, dx', _, _, rfl, hp', T.cl, T.n4, lf_modulus, rfl, _, rfl, ?_⟩
    rw [vdec]
    cases e : decide ((m : Int) = m') with
    | false => rw [e] at k; exact iteF k
    | true =>
    rw [e] at k
    refine iteT ⟨_, rfl, p, C, dx, _, _, rfl, hp, T.cl, T.n5, lf_ups, _, rfl, q, C, dx', _, _, rfl, hp', T.cl, T.n5, lf_ups, _, _, .tup (SqT.of hb) (dp_ints us), .tup (SqT.of hb') (dp_ints us'), shp_ti _, shp_ti _, _, rfl, ?_⟩
    rw [eqv_ti]
    cases e : decide (us = us') with
    | false => rw [e] at k; exact iteF k
    | true =>
    rw [e] at k
    refine iteT ⟨_, rfl, p, C, dx, _, _, rfl, hp, T.cl, T.n6, lf_downs, _, rfl, q, C, dx', _, _, rfl, hp', T.cl, T.n6, lf_downs, _, _, .tup (SqT.of hc) (dp_ints ds), .tup (SqT.of hc') (dp_ints ds'), shp_ti _, shp_ti _, ?_⟩
    show Q (.bl (PyData.eqv _ _)) _
    rw [eqv_ti]
    exact k
end
end My
set_option Elab.async false
set_option linter.all false
set_option maxRecDepth 100000
set_option maxHeartbeats 8000000
namespace My
open PySem PySem.Spec PyProof.Rows L2
local macro_rules | `(tactic| walk_at "lv") => `(tactic| first | exact Or.inl rfl | exact Or.inr rfl)
/-! ### comprehensions that make objects, if at all, and change none -/
theorem lc_itF {J : It} {n : Nat} {G : Hp → Prop} {Y : Nat → Hp → V → Hp → Prop} (w : Walk J n G Y) {g : TG} {tt : TT} {te : TE} {vs : List Nat} {σ : L2.St} {H0 : Hp} {D : Addr} {Qd : Hp → Prop} (hD : H0 D = none) (L : Nat → List V) (h0 : L 0 = [])
    (hl : ∀ i, i < n → (L i).length < sizeLine) (hG : ∀ H, Same H0 H → G H)
    (hs : ∀ i x H H', i < n → H D = some (.lst (L i)) → Same H0 H → Y i H x H' → g x (wipe σ vs) H' fun σ2 H2 => wipe σ2 vs = wipe σ vs ∧ tt σ2 H2 fun b H3 =>
      if b = true then te σ2 H3 fun y H4 => H4 D = some (.lst (L i)) ∧ Same H0 H4 ∧ L (i + 1) = L i ++ [y] else H3 D = some (.lst (L i)) ∧ Same H0 H3 ∧ L (i + 1) = L i)
    (mono : ∀ (x : V) (H' : Hp), ∀ Q Q' : L2.St → Hp → Prop, (∀ σ2 H2, Q σ2 H2 → Q' σ2 H2) → g x (wipe σ vs) H' Q → g x (wipe σ vs) H' Q')
    (monoT : ∀ (σ2 : L2.St) (H2 : Hp), ∀ Q Q' : Bool → Hp → Prop, (∀ b H3, Q b H3 → Q' b H3) → tt σ2 H2 Q → tt σ2 H2 Q')
    (monoE : ∀ (σ2 : L2.St) (H2 : Hp), ∀ Q Q' : V → Hp → Prop, (∀ b H3, Q b H3 → Q' b H3) → te σ2 H2 Q → te σ2 H2 Q')
    (hd : ∀ H, H D = some (.lst (L n)) → Same H0 H → Qd H) :
    ∃ W : Nat → Nat → Hp → Prop, (∃ m, W 0 m (upd H0 D (.lst []))) ∧ ∀ i m H, W i m H →
      (J.stop i H ∧ Qd H) ∨ (J.go i H ∧ ∃ Nx : Hp → Prop, (∀ H', Nx H' → ∃ k, k < m ∧ W (i + 1) k H') ∧ ∀ x H', J.yld i H x H' → g x (wipe σ vs) H' fun σ2 H2 => wipe σ2 vs = wipe σ vs ∧ tt σ2 H2 fun b H3 =>
        if b = true then te σ2 H3 fun y H4 => ∃ xs, H4 D = some (.lst xs) ∧ xs.length < sizeLine ∧ Nx (upd H4 D (.lst (xs ++ [y]))) else Nx H3) := by
  refine lc_it w (fun i H => H D = some (.lst (L i)) ∧ Same H0 H) ⟨by rw [h0]; exact upd_same, same_new (Same.refl H0) hD⟩ (fun i H _ h => hG H h.2) (fun i x H H' hi h y => ?_) (fun H h => hd H h.1 h.2)
  refine mono x H' _ _ (fun σ2 H2 q => ⟨q.1, monoT σ2 H2 _ _ (fun b H3 q2 => ?_) q.2⟩) (hs i x H H' hi h.1 h.2 y)
  cases b with
  | false =>
    refine iteF ?_
    obtain ⟨q1, q3, q4⟩ : _ ∧ _ ∧ _ := q2
    exact ⟨by rw [q4]; exact q1, q3⟩
  | true =>
    refine iteT ?_
    refine monoE σ2 H3 _ _ (fun v H4 q5 => ?_) q2
    obtain ⟨q1, q3, q4⟩ := q5
    refine ⟨_, q1, hl i hi, by rw [q4]; exact upd_same, fun b o e => ?_⟩
    rw [upd_ne (ne_of_none e hD)]
    exact q3 b o e
theorem walk_list2 {K : PySem.W.Frag} {a : Addr} {xs : List V} {H0 : Hp} (h : SqL K H0 a xs) : Walk (Itl K a) xs.length (fun H => Same H0 H) (YAt xs) := walk_list.mono (fun H s => s.seq h) fun _ _ _ _ _ _ y => y
theorem rep_getD (n k : Nat) : (List.replicate n false).getD k false = false := by
  rw [List.getD_eq_getElem?_getD, List.getElem?_replicate]
  split <;> rfl
section
variable {P : Program} {w : World} {K : PySem.W.Frag} {mg : Str → Option Value} {base : Heap}
/-! ### _flags -/
def spFlags : Sp := fun vs H Q _ => ∃ (a : Addr) (ns : List Int) (lo hi : Int), vs = [.int lo, .int hi, .ref a] ∧ SqA H a (ns.map V.int) ∧ lo ≤ hi + 1 ∧ hi - lo < 1000 ∧ -(2 * 10 ^ 31) ≤ lo ∧ hi ≤ 2 * 10 ^ 31 ∧ (∀ n ∈ ns, lo ≤ n ∧ n ≤ hi) ∧
  ∀ p (bs : List Bool) H', H p = none → Same H H' → H' p = some (.lst (bs.map V.bl)) → bs.length = (hi - lo + 1).toNat → (∀ k : Nat, k < bs.length → bs.getD k false = decide (lo + (k : Int) ∈ ns)) → Q (.ref p) H'
abbrev s_flags : Stmt := top 24
abbrev N_flags : List Str := ["low", "high", "numbers", "flags", "number"]
theorem sc_flags : FnScope N_flags ["low", "high", "numbers"] (defScope s_flags) := ⟨rfl, rfl, rfl, by decide +kernel, rfl, by decide +kernel, by decide +kernel⟩
theorem kp_flags (F : At K mg "_flags" s_flags) : Keeps CX0 P w K mg base "_flags" 1 ["low", "high", "numbers"] spFlags := by
  refine keeps_of F sc_flags (fun _ _ _ _ _ _ us hl => match us, hl with | [_, _, _], _ => rfl) (fun vs H Q E h => ?_) (fun f cdv A outer s H vs Q E hr h => ?_)
  · obtain ⟨a, ns, lo, hi, rfl, _⟩ := h
    rfl
  · obtain ⟨a, ns, lo, hi, rfl, hs, h1, h2, h3, h4, hb, k⟩ := h
    refine ⟨_, (pss_cons (ps_set (i := 3) sc_flags.nd rfl (by walk_at "lv") (pe_op op_rep (pe_lst (pa_cons pe_bl pa_nil)) (pe_op op_add (pe_op op_sub (pv 1) (pv 0)) pe_int)))
        (pss_cons (ps_for PassesOwn.never rfl (pi_seqV (pv 2)) (pg_name (i := 4) sc_flags.nd rfl (by walk_at "lv")) (pss_one (ps_asg pe_bl (pg_sub (pv 3) (pe_op op_sub (pv 4) (pv 0)) set_list))))
        (pss_one (ps_ret (pv 3))))), ?_⟩
    refine ⟨(by show 1 ≤ sizeLine; decide), fun l hl => ⟨_, rfl, _, rfl, _, _, rfl, rfl, _, _, rfl, rfl, l, _, _, rfl, rfl, upd_same, by omega, by omega, ?_, fun p hp => ?_⟩⟩
    · show 1 * _ ≤ _
      rw [Nat.one_mul]
      exact Nat.le_of_lt (small1000 (by omega))
    · have s1 := same_new (o := .lst [V.bl false]) (Same.refl H) hl
      have e0 : ∀ n : Nat, (List.replicate n [V.bl false]).flatten = (List.replicate n false).map V.bl := fun n => by rw [rep_flat, List.map_replicate]
      rw [e0]
      have s2 := same_new (o := .lst ((List.replicate (hi - lo + 1).toNat false).map V.bl)) s1 hp
      have hpH : H p = none := s1.free hp
      refine ⟨a, _, rfl, hs.same s2, fun J wk => for_it wk (fun i σ H2 => ∃ (x : Option V) (bs : List Bool), σ = [some (.int lo), some (.int hi), some (.ref a), some (.ref p), x] ∧ H2 p = some (.lst (bs.map V.bl)) ∧ bs.length = (hi - lo + 1).toNat ∧ (∀ k : Nat, k < bs.length → bs.getD k false = decide (lo + (k : Int) ∈ ns.take i)) ∧ Same H H2)
        ⟨_, _, rfl, upd_same, by simp, (fun k hk => by rw [rep_getD]; simp), s2⟩ (fun i σ H2 _ ⟨_, _, _, _, _, _, s3⟩ => by rw [hs.keep s3, hs.keep s2]) ?_ ?_⟩
      · rintro i v σ H2 H3 hi' ⟨x, bs, rfl, e1, e2, e3, s3⟩ ⟨rfl, e4⟩
        obtain ⟨n, hn, rfl⟩ := int_at e4
        have hbn := hb n (List.mem_of_getElem? hn)
        refine ⟨_, rfl, _, rfl, _, rfl, _, _, rfl, rfl, p, _, _, (n - lo).toNat, rfl, rfl, e1, ?_, ?_⟩
        · unfold ixN
          rw [if_pos (by omega), if_pos (by rw [List.length_map]; omega)]
        refine ⟨_, bs.set (n - lo).toNat true, rfl, ?_, by rw [List.length_set]; exact e2, fun k hk => ?_, fun b o e => ?_⟩
        · rw [List.map_set]
          exact upd_same
        · rw [List.length_set] at hk
          obtain ⟨hi3, hi4⟩ := List.getElem?_eq_some_iff.mp hn
          rw [List.take_succ_eq_append_getElem hi3, hi4]
          rw [List.getD_eq_getElem?_getD, List.getElem?_set]
          by_cases q : (n - lo).toNat = k
          · rw [if_pos q, if_pos (by omega)]
            have : lo + (k : Int) = n := by omega
            simp [this]
          · rw [if_neg q, ← List.getD_eq_getElem?_getD, e3 k hk]
            have : ¬ lo + (k : Int) = n := by omega
            simp [this]
        · rw [upd_ne (ne_of_none e hpH)]
          exact s3 b o e
      · rintro σ H2 ⟨x, bs, rfl, e1, e2, e3, s3⟩
        refine ⟨_, rfl, ?_⟩
        refine k p bs H2 hpH s3 e1 e2 fun j hj => ?_
        rw [e3 j hj, List.length_map, List.take_length]
/-! ### _places_of -/
def spPlaces : Sp := fun vs H Q _ => ∃ (a : Addr) (bs : List Bool), vs = [.ref a] ∧ H a = some (.lst (bs.map V.bl)) ∧ bs.length ≤ 1000 ∧ ∀ p H', H p = none → Same H H' → H' p = some (.lst ((res bs).map V.int)) → Q (.ref p) H'
abbrev s_places : Stmt := top 25
abbrev N_places : List Str := ["flags", "place", "told"]
theorem sc_places : FnScope N_places ["flags"] (defScope s_places) := ⟨rfl, rfl, rfl, by decide +kernel, rfl, by decide +kernel, by decide +kernel⟩
theorem bl_at {ns : List Bool} {i : Nat} {x : V} (h : (ns.map V.bl)[i]? = some x) : ∃ z, ns[i]? = some z ∧ x = .bl z := by
  rw [List.getElem?_map] at h
  cases e : ns[i]? with
  | none =>
    rw [e] at h
    cases h
  | some z =>
    rw [e] at h
    exact ⟨z, rfl, (Option.some.inj h).symm⟩
theorem kp_places (F : At K mg "_places_of" s_places) (N : Nb mg) : Keeps CX0 P w K mg base "_places_of" 1 ["flags"] spPlaces := by
  refine keeps_of F sc_places (fun _ _ _ _ _ _ us hl => match us, hl with | [_], _ => rfl) (fun vs H Q E h => ?_) (fun f cdv A outer s H vs Q E hr h => ?_)
  · obtain ⟨a, bs, rfl, _⟩ := h
    rfl
  · obtain ⟨a, bs, rfl, ha, hl, k⟩ := h
    refine ⟨_, (pss_one (ps_ret (pe_lc (own := [("place", 1), ("told", 2)]) (g := gTup K 2 (gCons (gName 1) (gCons (gName 2) gNil))) rfl sc_places.nd (pi_enum (by rfl) N.enumerate (pa_cons (pv 0) pa_nil)) (blkOk_by (N := N_places) (sc := defScope s_places) (by decide +kernel)) (fun _ _ _ _ _ => (pg_tup (by rfl) (pgs_cons (pg_name (i := 1) sc_places.nd rfl (by walk_at "lv")) (pgs_cons (pg_name (i := 2) sc_places.nd rfl (by walk_at "lv")) pgs_nil)))) (fun _ _ _ _ _ => (pts_one (pt_val (pv 2)))) (fun _ _ _ _ _ => (pv 1))))), ?_⟩
    refine ⟨_, rfl, a, _, rfl, SqL.of ha, fun D hD => ?_⟩
    refine lc_it walk_enum (fun i H3 => H3 D = some (.lst ((fil (fun k => bs.getD k.toNat false) 0 i).map V.int)) ∧ Same H H3) ⟨upd_same, same_new (Same.refl H) hD⟩ (fun i H3 _ h => h.2.seq (SqL.of ha)) ?_ ?_
    · rintro i v H2 H3 hi ⟨e1, s1⟩ ⟨T, u, z, rfl, nT, rfl, e3, e4⟩
      obtain ⟨b, hb, rfl⟩ := bl_at e4
      cases Option.some.inj e3
      have s2 := same_new (o := .tup [V.int (i : Nat), V.bl b]) s1 nT
      have hDT : D ≠ T := ne_of_none e1 nT
      have hib : i < bs.length := (List.getElem?_eq_some_iff.mp hb).1
      have hbs : bs.getD (0 + (i : Int)).toNat false = b := by
        rw [show (0 + (i : Int)).toNat = i by omega, List.getD_eq_getElem?_getD, hb]
        rfl
      refine ⟨T, _, rfl, SqT.of upd_same, rfl, _, _, rfl, _, _, rfl, rfl, ?_⟩
      refine ⟨rfl, _, rfl, _, rfl, ?_⟩
      cases b with
      | false =>
        refine iteF ⟨?_, s2⟩
        rw [fil_neg (by rw [hbs]; exact Bool.false_ne_true), upd_ne hDT]
        exact e1
      | true =>
        refine iteT ⟨_, rfl, _, by rw [upd_ne hDT]; exact e1, small1000 (by rw [List.length_map]; exact Nat.le_trans (fil_len _ _ _) (by omega)), ?_, fun b o e => ?_⟩
        · rw [fil_pos hbs, List.map_append, Int.zero_add]
          exact upd_same
        · rw [upd_ne (ne_of_none e hD)]
          exact s2 b o e
    · rintro H3 ⟨e1, s1⟩
      rw [List.length_map] at e1
      exact k D H3 hD s1 e1
end
end My
set_option Elab.async false
set_option linter.all false
set_option maxRecDepth 100000
set_option maxHeartbeats 8000000
namespace My
open PySem PySem.Spec PyProof.Rows L2
local macro_rules | `(tactic| walk_at "lv") => `(tactic| first | exact Or.inl rfl | exact Or.inr rfl)
theorem vdecB (a b : Bool) : decide (V.bl a = V.bl b) = decide (a = b) := by
  by_cases h : a = b
  · subst h; simp
  · simp [h]
theorem blI_get {bs : List Bool} {i : Int} (h0 : 0 ≤ i) (h1 : i < bs.length) : atI (bs.map V.bl) i = some (.bl (bs.getD i.toNat false)) := by
  obtain ⟨v, e, e2⟩ := atI_of (xs := bs.map V.bl) h0 (by rw [List.length_map]; exact h1)
  obtain ⟨b, hb, rfl⟩ := bl_at e
  rw [e2, List.getD_eq_getElem?_getD, hb]
  rfl
theorem cyc_get {bs : List Bool} {n : Int} {m : Nat} (hm : bs.length = m) (h : 0 < m) : atI (bs.map V.bl) (n % (m : Int)) = some (.bl (cyc bs n)) := by
  have k0 := Int.emod_nonneg n (by omega : (m : Int) ≠ 0)
  have k1 := Int.emod_lt_of_pos n (by omega : (0 : Int) < (m : Int))
  rw [blI_get k0 (by omega)]
  unfold cyc
  rw [hm]
section
variable {P : Program} {w : World} {K : PySem.W.Frag} {mg : Str → Option Value} {base : Heap}
/-! ### _repeats -/
def spRep : Sp := fun vs H Q _ => ∃ (a : Addr) (bs : List Bool) (d : Nat), vs = [.ref a, .int d] ∧ H a = some (.lst (bs.map V.bl)) ∧ 0 < d ∧ d < bs.length ∧ ∀ H' r, Same H H' → r = decide (bs.drop d = bs.take (bs.length - d)) → Q (.bl r) H'
abbrev s_rep : Stmt := top 27
abbrev N_rep : List Str := ["flags", "length"]
theorem sc_rep : FnScope N_rep ["flags", "length"] (defScope s_rep) := ⟨rfl, rfl, rfl, by decide +kernel, rfl, by decide +kernel, by decide +kernel⟩
theorem eqv_lb (a b : List Bool) : PyData.eqv (.list (a.map PyData.bool)) (.list (b.map PyData.bool)) = decide (a = b) := eqv_bls a b
theorem shp_lb (ns : List Bool) : SeqAt.shaped (.list (ns.map PyData.bool)) = true := shp_lst (lay_bls ns).1 (lay_bls ns).2 (by decide)
theorem kp_rep (F : At K mg "_repeats" s_rep) : Keeps CX0 P w K mg base "_repeats" 1 ["flags", "length"] spRep := by
  refine keeps_of F sc_rep (fun _ _ _ _ _ _ us hl => match us, hl with | [_, _], _ => rfl) (fun vs H Q E h => ?_) (fun f cdv A outer s H vs Q E hr h => ?_)
  · obtain ⟨a, bs, d, rfl, _⟩ := h
    rfl
  · obtain ⟨a, bs, d, rfl, ha, h0, h1, k⟩ := h
    refine ⟨_, (pss_one (ps_ret (pe_cmpR (op_eqD hr.units) (pe_slice sl_list (pv 0) (po_some (pv 1)) po_none) (pe_slice sl_list (pv 0) po_none (po_some (pe_un un_neg (pv 1)))) (nomark _)))), ?_⟩
    refine ⟨_, rfl, _, rfl, _, rfl, a, _, rfl, SqL.of ha, fun p hp => ?_⟩
    have s1 := same_new (o := .lst (cutV (bs.map V.bl) (some (d : Int)) none)) (Same.refl H) hp
    refine ⟨_, rfl, _, rfl, _, rfl, _, rfl, a, _, rfl, SqL.of (s1 _ _ ha), fun q hq => ?_⟩
    have s2 := same_new (o := .lst (cutV (bs.map V.bl) none (some (-(d : Int))))) s1 hq
    have e1 : cutV (bs.map V.bl) (some (d : Int)) none = (bs.drop d).map V.bl := by
      unfold cutV
      rw [HT.sIx_nat, HT.sIx_none, List.length_map, Nat.min_eq_left (by omega), ← List.map_drop, List.take_of_length_le (by rw [List.length_map, List.length_drop]; omega)]
    have e2 : cutV (bs.map V.bl) none (some (-(d : Int))) = (bs.take (bs.length - d)).map V.bl := by
      unfold cutV
      rw [HT.sIx_none, List.drop_zero, List.length_map]
      have : HT.sIx bs.length bs.length (some (-(d : Int))) = bs.length - d := by
        show (if -(d : Int) < 0 then _ else _) = _
        rw [if_pos (by omega)]
        omega
      rw [this, List.map_take]
      rfl
    have hpq : p ≠ q := ne_of_none upd_same hq
    rw [e1, e2] at s2 ⊢
    refine ⟨_, _, .lst (SqL.of (by rw [upd_ne hpq]; exact upd_same)) (dp_bls _), .lst (SqL.of upd_same) (dp_bls _), shp_lb _, shp_lb _, ?_⟩
    show Q (.bl (PyData.eqv _ _)) _
    rw [eqv_lb]
    exact k _ _ s2 rfl
/-! ### _least_modulus -/
def spLM : Sp := fun vs H Q _ => ∃ (a b : Addr) (us ds : List Bool), vs = [.ref a, .ref b] ∧ H a = some (.lst (us.map V.bl)) ∧ H b = some (.lst (ds.map V.bl)) ∧ ds.length = us.length ∧ 0 < us.length ∧ us.length ≤ 1000 ∧
  ∀ H' (d : Nat), Same H H' → Least (cyc us) (cyc ds) d → d ≤ us.length → Q (.int d) H'
abbrev s_lm : Stmt := top 26
abbrev N_lm : List Str := ["ups", "downs", "many", "length"]
theorem sc_lm : FnScope N_lm ["ups", "downs"] (defScope s_lm) := ⟨rfl, rfl, rfl, by decide +kernel, rfl, by decide +kernel, by decide +kernel⟩
theorem kp_lm (F : At K mg "_least_modulus" s_lm) (G : Keeps CX0 P w K mg base "_repeats" 1 ["flags", "length"] spRep) (N : Nb mg) : Keeps CX0 P w K mg base "_least_modulus" 2 ["ups", "downs"] spLM := by
  refine keeps_of F sc_lm (fun _ _ _ _ _ _ us hl => match us, hl with | [_, _], _ => rfl) (fun vs H Q E h => ?_) (fun f cdv A outer s H vs Q E hr h => ?_)
  · obtain ⟨a, b, us, ds, rfl, _⟩ := h
    rfl
  · obtain ⟨a, b, us, ds, rfl, ha, hb, hl, h0, h1, k⟩ := h
    refine ⟨_, (pss_cons (ps_set (i := 2) sc_lm.nd rfl (by walk_at "lv") (pe_callB call_len_seq (by rfl) N.len (by decide +kernel) (pa_cons (pv 0) pa_nil)))
        (pss_cons (ps_for PassesOwn.never rfl (pi_range2 (by rfl) N.range (pa_cons pe_int (pa_cons (pv 2) pa_nil))) (pg_name (i := 3) sc_lm.nd rfl (by walk_at "lv")) (pss_one (ps_if (PW.pt (pw_and (pt_cmpR op_eq (pe_op op_mod (pv 2) (pv 3)) pe_int (nomark _)) (pw_and (pt_val (pe_k G hr (by rfl) pass0 (pa_cons (pv 0) (pa_cons (pv 3) pa_nil)))) (pw_and1 (pt_val (pe_k G hr (by rfl) pass0 (pa_cons (pv 1) (pa_cons (pv 3) pa_nil)))))))) (pss_one (ps_ret (pv 3))) pss_nil)))
        (pss_one (ps_ret (pv 2))))), ?_⟩
    have pu : Per (cyc us) us.length := cyc_per
    have pd : Per (cyc ds) us.length := by have := cyc_per (l := ds); rw [hl] at this; exact this
    refine ⟨_, rfl, a, _, rfl, .inl (SqL.of ha), _, rfl, ?_⟩
    refine ⟨_, _, rfl, ⟨by decide, by decide, by rw [List.length_map]; omega, by rw [List.length_map]; omega⟩, ?_⟩
    rw [List.length_map, show ((us.length : Int) - 1).toNat = us.length - 1 by omega]
    refine for_range (lo := 1) (n := us.length - 1) (fun i σ H2 => ∃ x : Option V, σ = [some (.ref a), some (.ref b), some (.int us.length), x] ∧ Same H H2 ∧ ∀ e, 0 < e → e ≤ i → us.length % e = 0 → Per (cyc us) e → Per (cyc ds) e → False) ⟨_, rfl, Same.refl H, fun e h1 h2 => by omega⟩ ?_ ?_
    · rintro i σ H2 hi ⟨x, rfl, s2, no⟩
      have e1 : (1 : Int) + (i : Nat) = ((i + 1 : Nat) : Int) := by omega
      rw [e1]
      have nx : ∀ H3, Same H H3 → (us.length % (i + 1) = 0 → Per (cyc us) (i + 1) → Per (cyc ds) (i + 1) → False) → ∃ y : Option V, [some (V.ref a), some (V.ref b), some (V.int us.length), some (V.int ((i + 1 : Nat) : Int))] = [some (.ref a), some (.ref b), some (.int us.length), y] ∧ Same H H3 ∧ ∀ e, 0 < e → e ≤ i + 1 → us.length % e = 0 → Per (cyc us) e → Per (cyc ds) e → False := fun H3 s3 hn => ⟨_, rfl, s3, fun e h2 h3 h4 h5 h6 => by
        rcases Nat.lt_or_ge e (i + 1) with q | q
        · exact no e h2 (by omega) h4 h5 h6
        · have : e = i + 1 := by omega
          subst this
          exact hn h4 h5 h6⟩
      refine ⟨_, rfl, _, rfl, _, _, rfl, rfl, (by omega : (0 : Int) < ((i + 1 : Nat) : Int)), rfl, _, rfl, ?_⟩
      rw [vdec]
      refine ite2 (fun c => ?_) (fun c => ?_)
      · have c1 : us.length % (i + 1) = 0 := by
          have := of_decide_eq_true c
          omega
        refine ⟨_, rfl, _, rfl, a, us, i + 1, rfl, s2 _ _ ha, by omega, by omega, fun H3 r s3 er => ⟨_, rfl, ?_⟩⟩
        have s4 := s2.trans s3
        cases r with
        | false =>
          refine iteF (nx _ s4 fun _ pu' _ => ?_)
          exact of_decide_eq_false er.symm ((cut_shift (by omega)).mpr (per_shift pu'))
        | true =>
          refine iteT ⟨_, rfl, _, rfl, b, ds, i + 1, rfl, s4 _ _ hb, by omega, by omega, fun H5 r2 s5 er2 => ⟨_, rfl, ?_⟩⟩
          have s6 := s4.trans s5
          cases r2 with
          | false =>
            refine iteF (nx _ s6 fun _ _ pd' => ?_)
            exact of_decide_eq_false er2.symm ((cut_shift (by omega)).mpr (per_shift pd'))
          | true =>
            refine iteT ⟨_, rfl, ?_⟩
            refine k H5 (i + 1) s6 (least_by h0 pu pd (by omega) (shift_per (by omega) c1 ((cut_shift (by omega)).mp (of_decide_eq_true er.symm))) (shift_per (by omega) (by rw [hl]; exact c1) ((cut_shift (by omega)).mp (of_decide_eq_true er2.symm))) fun e h2 h3 h4 h5 h6 => no e h2 (by omega) h4 h5 h6) (by omega)
      · exact nx _ s2 fun z => absurd (by rw [decide_eq_true]; omega) c
    · rintro σ H2 ⟨x, rfl, s2, no⟩
      refine ⟨_, rfl, ?_⟩
      exact k H2 us.length s2 (least_by h0 pu pd h0 pu pd fun e h2 h3 h4 h5 h6 => no e h2 (by omega) h4 h5 h6) (Nat.le_refl _)
end
end My
set_option Elab.async false
set_option linter.all false
set_option maxRecDepth 100000
set_option maxHeartbeats 8000000
namespace My
open PySem PySem.Spec PyProof.Rows L2
local macro_rules | `(tactic| walk_at "lv") => `(tactic| first | exact Or.inl rfl | exact Or.inr rfl)
/-! ### range with bounds of any size -/
section
variable {X : Cx} {tg : Expr}
/-- the long iterator, told by any J that yields lo, lo + c, .. -/
theorem turn_long {P : Program} {w : World} {K : PySem.W.Frag} {J : It} (it : Addr) (lo c : Int) (n : Nat) (hgo : ∀ i H, J.go i H → i < n) (hst : ∀ i H, J.stop i H → n ≤ i) (hy : ∀ (i : Nat) H, J.yld i H (.int (lo + (i : Nat) * c)) H) :
    Turn P w K tg J [it] it (fun i h => IsLongIter h it (lo + (i : Nat) * c) ((n : Int) - (i : Nat)) c) where
  mem := List.mem_singleton.mpr rfl
  obj := fun i h st b hb => by
    cases List.mem_singleton.mp hb
    refine ⟨_, st, fun v z => ?_⟩
    cases (show Data.fields _ = Data.cell v from z)
  keep := fun i h h' st k => k it (List.mem_singleton.mpr rfl) _ st
  item := by
    intro Y e1 e2 e3 hc i pns s σ H E I hf st hg
    have hi := hgo i H hg
    subst e1 e2 e3
    obtain ⟨f0, f1, f2, f3, f4, f5⟩ := hf it (List.mem_singleton.mpr rfl)
    refine (Walks.longrange (prog := Y.prog) (w := Y.w) (I.ok.hd hc) it lo c n).item i s _ _ hi st fun v h' tk hv st' kk => ?_
    obtain ⟨t, rfl⟩ := hv
    have I1 : Inv Y pns σ H { s with heap := h', toks := tk } := I.turned (fun b o hb e => kk b o (fun z => hb (List.mem_singleton.mp z)) e) f0 f1 f3 f4 f5
    exact ⟨_, rfl, go_of (s := { s with heap := h', toks := tk }) (n := "longrange_iterator") st' rfl rfl (by decide) ⟨.int (lo + (i : Nat) * c), H, I1, ⟨t, rfl⟩, hy i H, st', fun b hb => (hf b hb).1⟩⟩
  done := by
    intro Y e1 e2 e3 hc i pns s σ H E I hf st hg
    have hi := hst i H hg
    subst e1 e2 e3
    obtain ⟨f0, f1, f2, f3, f4, f5⟩ := hf it (List.mem_singleton.mpr rfl)
    exact wpAny_pyNext_long_end (I.ok.hd hc) st (by omega) fun h' eb => ⟨rfl, I.turned (t' := s.toks) (fun b o hb e => eb b o hb e) f0 f1 f3 f4 f5⟩
  self := fun A i s Q E st h => wpAny_pyIter_longiter st h
/-- range(i, j), i and j of any size -/
def iRngL (ta : TA) : TI := fun σ H R => ta σ H fun vs H1 => ∃ i j : Int, vs = [.int i, .int j] ∧ R (Itr i (j - i).toNat) H1
theorem pi_rangeL {a b : Expr} {ta : TA} {p pos : Pos} (hg : Gl X "range") (hm : X.mg "range" = none) (ha : PA X [a, b] ta) (hs : starEach [a, b] X.env = [(false, eval a X.env), (false, eval b X.env)] := by rfl) (hs2 : starEach [b] X.env = [(false, eval b X.env)] := by rfl) :
    PI X tg (.Call (.Name "range" p) [a, b] [] pos) (iRngL ta) := by
  refine ⟨fun pns s σ H R I h => Call_ (ld_blt I hg hm boot_range (PyProof.Rows.callWith_type1 (thn (ha.run pos pns s σ H _ I h) fun us s1 ⟨vs, H1, I1, r1, q1⟩ => ?_) (by rw [hs, hs2]) (by rw [hs2]; rfl)))⟩
  obtain ⟨i, j, rfl, q⟩ := q1
  obtain ⟨u, v, rfl, ru, rv⟩ : ∃ u v, us = [u, v] ∧ RelV (.int i) u ∧ RelV (.int j) v := by
    cases r1 with | cons r rr => cases rr with | cons r' rr => cases rr; exact ⟨_, _, rfl, r, r'⟩
  obtain ⟨t, rfl⟩ := ru
  obtain ⟨t', rfl⟩ := rv
  refine call_range_2 ?_
  by_cases sm : Builtin.Range.small i j 1 = true
  · have I2 : Inv X pns σ H1 { s1 with heap := s1.heap.push { cls := .type "range", data := .fields #[.int i t, .int j t', .int 1 s1.toks] }, toks := s1.toks + 1 } := I1.kept fun b o e => Heap.get?_push_of_some _ e
    refine wpAny_pyIter_range (IsRange.new ..) sm (pi_one (tk := s1.toks + 1) I2 _ (turn_range _ i (j - i).toNat) ?_ q)
    have e1 : i + ((0 : Nat) : Int) * 1 = i := by omega
    have e2 : (((j - i).toNat : Nat) : Int) - ((0 : Nat) : Int) = Builtin.Range.rangeSize i j 1 := by rw [rangeSize_one]; split <;> omega
    show IsRangeIter _ _ (i + ((0 : Nat) : Int) * 1) _ 1; rw [e1, e2]; exact Heap.get?_push_size _ rfl
  · have sm := Bool.eq_false_iff.mpr sm
    have I2 : Inv X pns σ H1 { s1 with heap := s1.heap.push { cls := .type "range", data := .fields #[.int i t, .int j t', .int 1 s1.toks] }, toks := s1.toks + 1 } := I1.kept fun b o e => Heap.get?_push_of_some _ e
    refine wpAny_pyIter_longrange (IsRange.new ..) sm (pi_one (tk := s1.toks + 1) I2 _ (turn_long (J := Itr i (j - i).toNat) _ i 1 (j - i).toNat (fun _ _ z => z) (fun _ _ z => z) (fun k H => ⟨rfl, congrArg V.int (by omega)⟩)) ?_ q)
    have e1 : i + ((0 : Nat) : Int) * 1 = i := by omega
    have e2 : (((j - i).toNat : Nat) : Int) - ((0 : Nat) : Int) = Builtin.Range.rangeSize i j 1 := by rw [rangeSize_one]; split <;> omega
    show IsLongIter _ _ (i + ((0 : Nat) : Int) * 1) _ 1; rw [e1, e2]; exact Heap.get?_push_size _ rfl
/-- range(i, j, -1), i and j of any size -/
def iRngD (ta : TA) : TI := fun σ H R => ta σ H fun vs H1 => ∃ i j : Int, vs = [.int i, .int j, .int (-1)] ∧ R (Itc i (-1) (i - j).toNat) H1
theorem pi_rangeD {a b c : Expr} {ta : TA} {p pos : Pos} (hg : Gl X "range") (hm : X.mg "range" = none) (ha : PA X [a, b, c] ta)
    (hs : starEach [a, b, c] X.env = (false, eval a X.env) :: starEach [b, c] X.env := by rfl) (hpl : (backTo pos (starEach [b, c] X.env)).any (·.1) = false := by rfl) : PI X tg (.Call (.Name "range" p) [a, b, c] [] pos) (iRngD ta) := by
  refine ⟨fun pns s σ H R I h => Call_ (ld_blt I hg hm boot_range (PyProof.Rows.callWith_type1 (thn (ha.run pos pns s σ H _ I h) fun us s1 ⟨vs, H1, I1, r1, q1⟩ => ?_) hs hpl))⟩
  obtain ⟨i, j, rfl, q⟩ := q1
  obtain ⟨u, v, x, rfl, ru, rv, rx⟩ : ∃ u v x, us = [u, v, x] ∧ RelV (.int i) u ∧ RelV (.int j) v ∧ RelV (.int (-1)) x := by
    cases r1 with | cons r rr => cases rr with | cons r' rr => cases rr with | cons r2 rr => cases rr; exact ⟨_, _, _, rfl, r, r', r2⟩
  obtain ⟨t, rfl⟩ := ru
  obtain ⟨t', rfl⟩ := rv
  obtain ⟨t2, rfl⟩ := rx
  refine call_range_3 (by decide) ?_ (.inl (PyProof.noPylong_small (by decide)))
  have e1 : i + ((0 : Nat) : Int) * (-1) = i := by omega
  have e2 : (((i - j).toNat : Nat) : Int) - ((0 : Nat) : Int) = Builtin.Range.rangeSize i j (-1) := by rw [PySem.W.rangeSize_downNat i j]; omega
  have I2 : Inv X pns σ H1 { s1 with heap := s1.heap.push { cls := .type "range", data := .fields #[.int i t, .int j t', .int (-1) t2] } } := I1.kept (t' := s1.toks) fun b o e => Heap.get?_push_of_some _ e
  by_cases sm : Builtin.Range.small i j (-1) = true
  · refine wpAny_pyIter_range (IsRange.new ..) sm (pi_one (tk := s1.toks) I2 _ (turn_rangeC _ i (-1) (i - j).toNat) ?_ q)
    show IsRangeIter _ _ (i + ((0 : Nat) : Int) * (-1)) _ (-1); rw [e1, e2]; exact Heap.get?_push_size _ rfl
  · refine wpAny_pyIter_longrange (IsRange.new ..) (Bool.eq_false_iff.mpr sm) (pi_one (tk := s1.toks) I2 _ (turn_long (J := Itc i (-1) (i - j).toNat) _ i (-1) (i - j).toNat (fun _ _ z => z) (fun _ _ z => z) (fun k H => ⟨rfl, rfl⟩)) ?_ q)
    show IsLongIter _ _ (i + ((0 : Nat) : Int) * (-1)) _ (-1); rw [e1, e2]; exact Heap.get?_push_size _ rfl
end
end My
set_option Elab.async false
set_option linter.all false
set_option maxRecDepth 100000
set_option maxHeartbeats 8000000
namespace My
open PySem PySem.Spec PyProof.Rows L2
local macro_rules | `(tactic| walk_at "lv") => `(tactic| first | exact Or.inl rfl | exact Or.inr rfl)
section
variable {P : Program} {w : World} {K : PySem.W.Frag} {mg : Str → Option Value} {base : Heap}
/-- a telling's three lists -/
structure TlAt (H : Hp) (T : Tl) (c u d : Addr) : Prop where
  cs : H c = some (.lst (T.cs.map V.bl))
  us : H u = some (.lst (T.us.map V.bl))
  ds : H d = some (.lst (T.ds.map V.bl))
theorem TlAt.same {H H' : Hp} {T : Tl} {c u d : Addr} (s : Same H H') (h : TlAt H T c u d) : TlAt H' T c u d := ⟨s _ _ h.cs, s _ _ h.us, s _ _ h.ds⟩
structure Tl.Near (T : Tl) : Prop where
  ok : T.Ok
  m : T.us.length ≤ 1000
  c : T.cs.length ≤ 1000
  lo : -10 ^ 31 ≤ T.lo ∧ T.lo ≤ 10 ^ 31
/-! ### _greatest_wrong -/
def spGW : Sp := fun vs H Q _ => ∃ (T : Tl) (c u d : Addr), vs = [.int T.lo, .ref c, .ref u, .ref d] ∧ TlAt H T c u d ∧ T.Near ∧ ((∀ n, T.has n = T.U n) → Q .non H) ∧ (∀ v, T.has v ≠ T.U v → (∀ n, v < n → T.has n = T.U n) → v ≤ T.hi → Q (.int v) H)
abbrev s_gw : Stmt := top 28
abbrev N_gw : List Str := ["low", "core", "ups", "downs", "many", "at", "number"]
theorem sc_gw : FnScope N_gw ["low", "core", "ups", "downs"] (defScope s_gw) := ⟨rfl, rfl, rfl, by decide +kernel, rfl, by decide +kernel, by decide +kernel⟩
theorem kp_gw (F : At K mg "_greatest_wrong" s_gw) (N : Nb mg) : Keeps CX0 P w K mg base "_greatest_wrong" 1 ["low", "core", "ups", "downs"] spGW := by
  refine keeps_of F sc_gw (fun _ _ _ _ _ _ us hl => match us, hl with | [_, _, _, _], _ => rfl) (fun vs H Q E h => ?_) (fun f cdv A outer s H vs Q E hr h => ?_)
  · obtain ⟨T, c, u, d, rfl, _⟩ := h
    rfl
  · obtain ⟨T, c, u, d, rfl, a, near, kn, ks⟩ := h
    have ok := near.ok
    have hm := ok.pos
    have hm1 := near.m
    have hc1 := near.c
    have hlo := near.lo
    have hhi : T.hi = T.lo + T.cs.length - 1 := rfl
    refine ⟨_, (pss_cons (ps_set (i := 4) sc_gw.nd rfl (by walk_at "lv") (pe_callB call_len_seq (by rfl) N.len (by decide +kernel) (pa_cons (pv 2) pa_nil)))
        (pss_cons (ps_for PassesOwn.never rfl (pi_range3 (by rfl) N.range (pa_cons (pe_op op_sub (pe_callB call_len_seq (by rfl) N.len (by decide +kernel) (pa_cons (pv 1) pa_nil)) pe_int) (pa_cons (pe_un un_neg pe_int) (pa_cons (pe_un un_neg pe_int) pa_nil)))) (pg_name (i := 5) sc_gw.nd rfl (by walk_at "lv")) (pss_one (ps_if (pt_cmpR op_ne (pe_ix ix_list (pv 1) (pv 5) (fun _ _ => rfl)) (pe_ix ix_list (pv 2) (pe_op op_mod (pe_op op_add (pv 0) (pv 5)) (pv 4)) (fun _ _ => rfl)) (nomark _)) (pss_one (ps_ret (pe_op op_add (pv 0) (pv 5)))) pss_nil)))
        (pss_cons (ps_for PassesOwn.never rfl (pi_rangeD (by rfl) N.range (pa_cons (pe_op op_sub (pv 0) pe_int) (pa_cons (pe_op op_sub (pe_op op_sub (pv 0) pe_int) (pv 4)) (pa_cons (pe_un un_neg pe_int) pa_nil)))) (pg_name (i := 6) sc_gw.nd rfl (by walk_at "lv")) (pss_one (ps_if (pt_cmpR op_ne (pe_ix ix_list (pv 3) (pe_op op_mod (pv 6) (pv 4)) (fun _ _ => rfl)) (pe_ix ix_list (pv 2) (pe_op op_mod (pv 6) (pv 4)) (fun _ _ => rfl)) (nomark _)) (pss_one (ps_ret (pv 6))) pss_nil)))
        (pss_one (ps_ret pe_non))))), ?_⟩
    refine ⟨_, rfl, u, _, rfl, .inl (SqL.of a.us), ?_⟩
    rw [List.length_map]
    refine ⟨_, rfl, c, _, rfl, .inl (SqL.of a.cs), _, _, rfl, rfl, _, rfl, _, rfl, _, _, _, _, rfl, RgC.neg (by rw [List.length_map]; omega) (by rw [List.length_map]; omega) (by decide) (by decide), ?_⟩
    rw [List.length_map, show ((T.cs.length : Int) - 1 - -1).toNat = T.cs.length by omega]
    refine for_rangeC (lo := (T.cs.length : Int) - 1) (c := -1) (n := T.cs.length) (fun i σ H2 => ∃ x : Option V, σ = [some (.int T.lo), some (.ref c), some (.ref u), some (.ref d), some (.int T.us.length), x, none] ∧ H2 = H ∧ ∀ n, T.lo + T.cs.length - i ≤ n → T.has n = T.U n) ⟨_, rfl, rfl, fun n hn => Tl.above (by omega)⟩ ?_ ?_
    · rintro i σ H2 hi ⟨x, rfl, rfl, inv⟩
      have e1 : (T.cs.length : Int) - 1 + (i : Nat) * -1 = ((T.cs.length - 1 - i : Nat) : Int) := by omega
      rw [e1]
      have hk : T.cs.length - 1 - i < T.cs.length := by omega
      have g1 := blI_get (bs := T.cs) (i := ((T.cs.length - 1 - i : Nat) : Int)) (by omega) (by omega)
      refine ⟨_, rfl, _, rfl, c, _, _, _, rfl, rfl, SqL.of a.cs, g1, _, rfl, _, rfl, _, rfl, _, _, rfl, rfl, _, rfl, _, _, rfl, rfl, (by omega : (0 : Int) < (T.us.length : Int)), u, _, _, _, rfl, rfl, SqL.of a.us, cyc_get rfl hm, rfl, _, rfl, ?_⟩
      show if (!decide (V.bl _ = V.bl _)) = true then _ else _
      rw [vdecB]
      have cn : T.has (T.lo + ((T.cs.length - 1 - i : Nat) : Int)) = T.cs.getD (T.cs.length - 1 - i) false := by
        rw [Tl.core (by omega) (by omega)]
        congr 1
        omega
      rw [show ((T.cs.length - 1 - i : Nat) : Int).toNat = T.cs.length - 1 - i by omega, ← cn]
      by_cases q : T.has (T.lo + ((T.cs.length - 1 - i : Nat) : Int)) = T.U (T.lo + ((T.cs.length - 1 - i : Nat) : Int))
      · rw [show decide (T.has (T.lo + ((T.cs.length - 1 - i : Nat) : Int)) = cyc T.us (T.lo + ((T.cs.length - 1 - i : Nat) : Int))) = true from decide_eq_true q]
        refine iteF ⟨_, rfl, rfl, fun n hn => ?_⟩
        rcases Int.lt_or_le (T.lo + ((T.cs.length - 1 - i : Nat) : Int)) n with z | z
        · exact inv n (by omega)
        · have : n = T.lo + ((T.cs.length - 1 - i : Nat) : Int) := by omega
          rw [this]
          exact q
      · rw [show decide (T.has (T.lo + ((T.cs.length - 1 - i : Nat) : Int)) = cyc T.us (T.lo + ((T.cs.length - 1 - i : Nat) : Int))) = false from decide_eq_false q]
        refine iteT ⟨_, rfl, _, rfl, _, _, rfl, rfl, ?_⟩
        exact ks _ q (fun n hn => inv n (by omega)) (by omega)
    · rintro σ H2 ⟨x, rfl, rfl, inv⟩
      refine ⟨_, rfl, _, _, rfl, rfl, _, rfl, _, _, rfl, rfl, _, rfl, _, _, rfl, rfl, _, rfl, _, _, rfl, ?_⟩
      rw [show (T.lo - 1 - (T.lo - 1 - (T.us.length : Int))).toNat = T.us.length by omega]
      refine for_rangeC (lo := T.lo - 1) (c := -1) (n := T.us.length) (fun i σ H3 => ∃ y : Option V, σ = [some (.int T.lo), some (.ref c), some (.ref u), some (.ref d), some (.int T.us.length), x, y] ∧ H3 = H2 ∧ ∀ n, T.lo - i ≤ n → T.has n = T.U n) ⟨_, rfl, rfl, fun n hn => inv n (by omega)⟩ ?_ ?_
      · rintro i σ H3 hi ⟨y, rfl, rfl, inv2⟩
        have e1 : T.lo - 1 + (i : Nat) * -1 = T.lo - 1 - (i : Int) := by omega
        rw [e1]
        refine ⟨_, rfl, _, rfl, _, rfl, _, _, rfl, rfl, (by omega : (0 : Int) < (T.us.length : Int)), d, _, _, _, rfl, rfl, SqL.of a.ds, cyc_get (n := T.lo - 1 - (i : Int)) ok.len hm, _, rfl, _, rfl, _, rfl, _, _, rfl, rfl, (by omega : (0 : Int) < (T.us.length : Int)), u, _, _, _, rfl, rfl, SqL.of a.us, cyc_get (n := T.lo - 1 - (i : Int)) rfl hm, rfl, _, rfl, ?_⟩
        show if (!decide (V.bl _ = V.bl _)) = true then _ else _
        rw [vdecB]
        have cn : T.has (T.lo - 1 - (i : Int)) = cyc T.ds (T.lo - 1 - (i : Int)) := Tl.below (by omega)
        rw [← cn]
        by_cases q : T.has (T.lo - 1 - (i : Int)) = cyc T.us (T.lo - 1 - (i : Int))
        · rw [decide_eq_true q]
          refine iteF ⟨_, rfl, rfl, fun n hn => ?_⟩
          rcases Int.lt_or_le (T.lo - 1 - (i : Int)) n with z | z
          · exact inv2 n (by omega)
          · have : n = T.lo - 1 - (i : Int) := by omega
            rw [this]
            exact q
        · rw [decide_eq_false q]
          refine iteT ⟨_, rfl, ?_⟩
          exact ks _ q (fun n hn => inv2 n (by omega)) (by omega)
      · rintro σ H3 ⟨y, rfl, rfl, inv2⟩
        exact kn fun n => by
          rcases Int.lt_or_le n T.lo with z | z
          · exact Tl.all_above ok (Int.le_refl _) (fun n h1 h2 => inv2 n (by unfold Tl.m at h1; omega)) n z
          · exact inv2 n (by omega)
end
end My
set_option Elab.async false
set_option linter.all false
set_option maxRecDepth 100000
set_option maxHeartbeats 8000000
namespace My
open PySem PySem.Spec PyProof.Rows L2
local macro_rules | `(tactic| walk_at "lv") => `(tactic| first | exact Or.inl rfl | exact Or.inr rfl)
section
variable {P : Program} {w : World} {K : PySem.W.Frag} {mg : Str → Option Value} {base : Heap}
/-! ### _least_wrong -/
def spLW : Sp := fun vs H Q _ => ∃ (T : Tl) (c u d : Addr), vs = [.int T.lo, .ref c, .ref u, .ref d] ∧ TlAt H T c u d ∧ T.Near ∧ (∃ n, T.has n ≠ T.U n) ∧ (∀ v H', Same H H' → T.has v ≠ T.D v → (∀ n, n < v → T.has n = T.D n) → T.lo ≤ v → Q (.int v) H')
abbrev s_lw : Stmt := top 29
abbrev N_lw : List Str := ["low", "core", "ups", "downs", "many", "at", "told", "number"]
theorem sc_lw : FnScope N_lw ["low", "core", "ups", "downs"] (defScope s_lw) := ⟨rfl, rfl, rfl, by decide +kernel, rfl, by decide +kernel, by decide +kernel⟩
theorem kp_lw (F : At K mg "_least_wrong" s_lw) (N : Nb mg) : Keeps CX0 P w K mg base "_least_wrong" 1 ["low", "core", "ups", "downs"] spLW := by
  refine keeps_of F sc_lw (fun _ _ _ _ _ _ us hl => match us, hl with | [_, _, _, _], _ => rfl) (fun vs H Q E h => ?_) (fun f cdv A outer s H vs Q E hr h => ?_)
  · obtain ⟨T, c, u, d, rfl, _⟩ := h
    rfl
  · obtain ⟨T, c, u, d, rfl, a, near, ex, ks⟩ := h
    have ok := near.ok
    have hm := ok.pos
    have hm1 := near.m
    have hc1 := near.c
    have hlo := near.lo
    have hhi : T.hi = T.lo + T.cs.length - 1 := rfl
    refine ⟨_, (pss_cons (ps_set (i := 4) sc_lw.nd rfl (by walk_at "lv") (pe_callB call_len_seq (by rfl) N.len (by decide +kernel) (pa_cons (pv 3) pa_nil)))
        (pss_cons (ps_for PassesOwn.never rfl (pi_enum (by rfl) N.enumerate (pa_cons (pv 1) pa_nil)) (pg_tup (by rfl) (pgs_cons (pg_name (i := 5) sc_lw.nd rfl (by walk_at "lv")) (pgs_cons (pg_name (i := 6) sc_lw.nd rfl (by walk_at "lv")) pgs_nil))) (pss_one (ps_if (pt_cmpR op_ne (pv 6) (pe_ix ix_list (pv 3) (pe_op op_mod (pe_op op_add (pv 0) (pv 5)) (pv 4)) (fun _ _ => rfl)) (nomark _)) (pss_one (ps_ret (pe_op op_add (pv 0) (pv 5)))) pss_nil)))
        (pss_cons (ps_set (i := 7) sc_lw.nd rfl (by walk_at "lv") (pe_op op_add (pv 0) (pe_callB call_len_seq (by rfl) N.len (by decide +kernel) (pa_cons (pv 1) pa_nil))))
        (pss_cons (ps_while PassesOwn.never (pt_cmpR op_eq (pe_ix ix_list (pv 2) (pe_op op_mod (pv 7) (pv 4)) (fun _ _ => rfl)) (pe_ix ix_list (pv 3) (pe_op op_mod (pv 7) (pv 4)) (fun _ _ => rfl)) (nomark _)) (pss_one (ps_aug (i := 7) sc_lw.nd rfl (by walk_at "lv") pe_int ip_add)))
        (pss_one (ps_ret (pv 7))))))), ?_⟩
    refine ⟨_, rfl, d, _, rfl, .inl (SqL.of a.ds), ?_⟩
    rw [List.length_map, ok.len]
    refine ⟨_, rfl, c, _, rfl, SqL.of a.cs, for_it walk_enum (fun i σ H2 => ∃ x y : Option V, σ = [some (.int T.lo), some (.ref c), some (.ref u), some (.ref d), some (.int T.us.length), x, y, none] ∧ Same H H2 ∧ ∀ n, n < T.lo + i → T.has n = T.D n) ⟨_, _, rfl, Same.refl H, fun n hn => Tl.below (by omega)⟩ (fun i σ H2 _ ⟨_, _, _, s2, _⟩ => s2.seq (SqL.of a.cs)) ?_ ?_⟩
    · rintro i v σ H2 H3 hi ⟨x, y, rfl, s2, inv⟩ ⟨W, p, z, rfl, nW, rfl, e3, e4⟩
      obtain ⟨b, hb, rfl⟩ := bl_at e4
      cases Option.some.inj e3
      have s3 := same_new (o := .tup [V.int (i : Nat), V.bl b]) s2 nW
      have hic : i < T.cs.length := (List.getElem?_eq_some_iff.mp hb).1
      have cn : T.has (T.lo + (i : Int)) = b := by
        rw [Tl.core (by omega) (by omega), show (T.lo + (i : Int) - T.lo).toNat = i by omega, List.getD_eq_getElem?_getD, hb]
        rfl
      refine ⟨W, _, rfl, SqT.of upd_same, rfl, _, _, rfl, _, _, rfl, rfl, ?_⟩
      refine ⟨_, rfl, _, rfl, _, rfl, _, rfl, _, _, rfl, rfl, _, rfl, _, _, rfl, rfl, (by omega : (0 : Int) < (T.us.length : Int)), d, _, _, _, rfl, rfl, SqL.of (s3 _ _ a.ds), cyc_get (n := T.lo + (i : Int)) ok.len hm, rfl, _, rfl, ?_⟩
      show if (!decide (V.bl _ = V.bl _)) = true then _ else _
      rw [vdecB]
      by_cases q : b = cyc T.ds (T.lo + (i : Int))
      · rw [decide_eq_true q]
        refine iteF ⟨_, _, rfl, s3, fun n hn => ?_⟩
        rcases Int.lt_or_le n (T.lo + (i : Int)) with z | z
        · exact inv n z
        · have : n = T.lo + (i : Int) := by omega
          rw [this, cn]
          exact q
      · rw [decide_eq_false q]
        refine iteT ⟨_, rfl, _, rfl, _, _, rfl, rfl, ?_⟩
        exact ks _ _ s3 (by rw [cn]; exact q) inv (by omega)
    · rintro σ H2 ⟨x, y, rfl, s2, inv⟩
      rw [List.length_map] at inv
      obtain ⟨W, w1, w2, w3⟩ := Tl.parts ok ex fun n h1 h2 => inv n (by omega)
      refine ⟨_, rfl, _, rfl, c, _, rfl, .inl (SqL.of (s2 _ _ a.cs)), _, _, rfl, rfl, ?_⟩
      rw [List.length_map]
      refine while_by (fun σ H3 => ∃ n : Int, σ = [some (.int T.lo), some (.ref c), some (.ref u), some (.ref d), some (.int T.us.length), x, y, some (.int n)] ∧ H3 = H2 ∧ T.hi < n ∧ n ≤ W ∧ ∀ k, T.hi < k → k < n → T.U k = T.D k) (fun σ H3 => match σ[7]? with | some (some (V.int n)) => (W - n).toNat | _ => 0) ⟨T.lo + T.cs.length, rfl, rfl, by omega, by omega, fun k h1 h2 => by omega⟩ ?_ ?_
      · rintro σ H3 ⟨n, rfl, rfl, n1, n2, n3⟩
        refine ⟨_, rfl, _, rfl, _, rfl, _, _, rfl, rfl, (by omega : (0 : Int) < (T.us.length : Int)), u, _, _, _, rfl, rfl, SqL.of (s2 _ _ a.us), cyc_get (n := n) rfl hm, _, rfl, _, rfl, _, rfl, _, _, rfl, rfl, (by omega : (0 : Int) < (T.us.length : Int)), d, _, _, _, rfl, rfl, SqL.of (s2 _ _ a.ds), cyc_get (n := n) ok.len hm, rfl, _, rfl, ?_⟩
        rw [vdecB]
        by_cases q : cyc T.us n = cyc T.ds n
        · rw [decide_eq_true q]
          have nW : n ≠ W := fun z => w3 (by rw [← z]; exact q)
          refine iteT ⟨_, rfl, _, _, rfl, rfl, ?_⟩
          refine ⟨⟨n + 1, rfl, rfl, by omega, by omega, fun k h1 h2 => ?_⟩, (by show (W - (n + 1)).toNat < (W - n).toNat; omega)⟩
          rcases Int.lt_or_le k n with z | z
          · exact n3 k h1 z
          · have : k = n := by omega
            rw [this]
            exact q
        · rw [decide_eq_false q]
          refine iteF ⟨_, rfl, ?_⟩
          refine ks n _ s2 (by rw [Tl.above n1]; exact q) (fun k hk => ?_) (by omega)
          rcases Int.lt_or_le T.hi k with z | z
          · rw [Tl.above z]
            exact n3 k z hk
          · exact inv k (by omega)
      · rintro σ H3 Q1 Q2 hq ⟨x1, h1, x2, h2, x3, h3, i, j, e1, e2, pos, p, xs, ix, v, e3, e4, sq, at_, y1, g1, y2, g2, y3, g3, i', j', f1, f2, pos', p', xs', ix', v', f3, f4, sq', at', sc, k, ek, q⟩
        exact ⟨x1, h1, x2, h2, x3, h3, i, j, e1, e2, pos, p, xs, ix, v, e3, e4, sq, at_, y1, g1, y2, g2, y3, g3, i', j', f1, f2, pos', p', xs', ix', v', f3, f4, sq', at', sc, k, ek, hq _ _ q⟩
end
end My
set_option Elab.async false
set_option linter.all false
set_option maxRecDepth 100000
set_option maxHeartbeats 8000000
namespace My
open PySem PySem.Spec PyProof.Rows L2
/-! ### facts of the error classes -/
theorem and_ok {a b : Bool} (h : (a && b) = true) : a = true ∧ b = true := Bool.and_eq_true_iff.mp h
theorem clsB_ok {K : PySem.W.Frag} {C : Addr} {nm : Str} {bm : List Value} (h : clsB K C nm bm = true) :
    ∃ q N bs sn sub ab col dd k0 k1 k2 k3 k5, K.lookup C = some (excClassObj nm q C N bs bm true sn sub ab col dd k0 k1 k2 k3 k5 "ValueError.__new__") := by
  unfold clsB at h
  split at h
  · rename_i t dd cd sl lk
    obtain ⟨nm', bs, mro, ns, qn, hd, sn, sb, ab, col, del⟩ := cd
    obtain ⟨l⟩ := sl
    obtain ⟨ht, h⟩ := and_ok h
    have ht := of_decide_eq_true ht
    dsimp only at h
    split at h
    · rename_i C' r k0 k1 k2 k3 n k5
      obtain ⟨h1, h⟩ := and_ok h
      obtain ⟨h2, h⟩ := and_ok h
      obtain ⟨h3, h⟩ := and_ok h
      obtain ⟨h4, h⟩ := and_ok h
      obtain ⟨h5, h6⟩ := and_ok h
      have h1 := of_decide_eq_true h1
      have h2 := of_decide_eq_true h2
      have h3 : del = false := by simpa using h3
      have h4 : hd = true := h4
      have h5 := of_decide_eq_true h5
      have h6 := of_decide_eq_true h6
      rw [lk, ht, h1, h2, h3, h4, h5, h6]
      exact ⟨_, _, _, _, _, _, _, _, _, _, _, _, _, rfl⟩
    · cases h
  · cases h
/-- what is told of an error class x with the attributes fs; b: the class above it -/
structure ExF (K : PySem.W.Frag) (mg : Str → Option Value) (x b : Str) (fs : List Str) : Prop where
  g : mg x = some (.ref (He.ga K x))
  lk : ∃ q N bs sn sub ab col dd k0 k1 k2 k3 k5, K.lookup (He.ga K x) = some (excClassObj x q (He.ga K x) N bs (.ref (He.ga K b) :: He.veBase) true sn sub ab col dd k0 k1 k2 k3 k5 "ValueError.__new__")
  sa : PySem.W.findIn K (.ref (He.ga K x)) "__setattr__" = some (some (.builtin "object.__setattr__"))
  exC : PySem.W.subIn K (.ref (He.ga K x)) (.type "BaseException") = some true
  kC : PySem.W.keepIn K (.ref (He.ga K x)) = true
  ga : PySem.W.findIn K (.ref (He.ga K x)) "__getattribute__" = some (some (.builtin "BaseException.__getattribute__"))
  gg : PySem.W.findIn K (.ref (He.ga K x)) "__getattr__" = some none
  ca : PySem.W.findIn K (.ref (He.ga K x)) "__class__" = some (some (.builtin "object.__class__"))
  mo : PySem.W.mroIn K (He.ga K x) (.type "object") = some true
  no : ∀ f ∈ fs, PySem.W.findIn K (.ref (He.ga K x)) f = some none
  kB : PySem.W.kitOne K (.ref (He.ga K x)) (.ref (He.ga K b)) = some true
  kV : PySem.W.kitOne K (.ref (He.ga K x)) (.type "ValueError") = some true
  xm : PySem.W.exmOne K (.ref (He.ga K x)) (.ref (He.ga K b)) = some true
  new : fs = [] → PySem.W.excIn K (He.ga K x) He.veBase "ValueError.__new__" = true
  ini : fs ≠ [] → PySem.W.findIn K (.ref (He.ga K x)) "__init__" = some (some (.ref (He.ma K (He.ga K x) "__init__"))) ∧ PySem.W.typeIn K (.ref (He.ma K (He.ga K x) "__init__")) = some (.type "function")
theorem exB_ok {K : PySem.W.Frag} {h : Heap} {mg : Str → Option Value} (X : K.In h) (G : h.Ns mainGlobals mg) {x b : Str} {fs : List Str} (c : exB K b (x, fs) = true) : ExF K mg x b fs := by
  obtain ⟨c1, c⟩ := and_ok c
  obtain ⟨c2, c⟩ := and_ok c
  obtain ⟨c3, c⟩ := and_ok c
  obtain ⟨c4, c⟩ := and_ok c
  obtain ⟨c5, c⟩ := and_ok c
  obtain ⟨c6, c⟩ := and_ok c
  obtain ⟨c7, c⟩ := and_ok c
  obtain ⟨c8, c⟩ := and_ok c
  obtain ⟨c9, c⟩ := and_ok c
  obtain ⟨c10, c⟩ := and_ok c
  obtain ⟨c11, c⟩ := and_ok c
  obtain ⟨c12, c⟩ := and_ok c
  obtain ⟨c13, c⟩ := and_ok c
  refine ⟨He.glo_ok X G c1, clsB_ok c2, of_decide_eq_true c3, of_decide_eq_true c4, c5, of_decide_eq_true c6, of_decide_eq_true c7, of_decide_eq_true c8, of_decide_eq_true c9, fun f hf => of_decide_eq_true (List.all_eq_true.mp c10 f hf), of_decide_eq_true c11, of_decide_eq_true c12, of_decide_eq_true c13, fun e => ?_, fun e => ?_⟩
  · subst e
    exact c
  · cases fs with
    | nil => exact absurd rfl e
    | cons f r =>
      obtain ⟨d1, d2⟩ := and_ok c
      exact ⟨of_decide_eq_true d1, of_decide_eq_true d2⟩
section
variable {K : PySem.W.Frag} {mg : Str → Option Value} {x b : Str} {fs : List Str}
theorem ExF.ty (T : ExF K mg x b fs) : PySem.W.typeIn K (.ref (He.ga K x)) = some (.type "type") := by
  obtain ⟨q, N, bs, sn, sub, ab, col, dd, k0, k1, k2, k3, k5, lk⟩ := T.lk
  show ((K.lookup (He.ga K x)).map (·.cls)) = _
  rw [lk]
  rfl
theorem ExF.cl (T : ExF K mg x b fs) : (PySem.W.clsIn K (He.ga K x)).isSome = true := by
  obtain ⟨q, N, bs, sn, sub, ab, col, dd, k0, k1, k2, k3, k5, lk⟩ := T.lk
  unfold PySem.W.clsIn
  rw [lk]
  rfl
theorem ExF.dict (T : ExF K mg x b fs) : PySem.W.hasDictIn K (He.ga K x) = true := by
  obtain ⟨q, N, bs, sn, sub, ab, col, dd, k0, k1, k2, k3, k5, lk⟩ := T.lk
  unfold PySem.W.hasDictIn PySem.W.clsIn
  rw [lk]
  rfl
theorem ExF.ox (T : ExF K mg x b fs) : OexC K (He.ga K x) := by
  obtain ⟨q, N, bs, sn, sub, ab, col, dd, k0, k1, k2, k3, k5, lk⟩ := T.lk
  exact ⟨⟨x, q, N, bs, _, sn, sub, ab, col, dd, k0, k1, k2, k3, k5, lk, (show PySem.HandSPX.refsVE He.veBase = true by decide +kernel)⟩, T.sa, T.exC, T.ty, T.kC⟩
/-- two of them: is the one the other -/
theorem kit_two {y : Str} {gs : List Str} (T : ExF K mg x b fs) (U : ExF K mg y b gs) (hb : y ≠ b) (hB : ∃ q N bs bm sn sub ab col dd k0 k1 k2 k3 k5 nid, K.lookup (He.ga K b) = some (excClassObj b q (He.ga K b) N bs bm true sn sub ab col dd k0 k1 k2 k3 k5 nid)) :
    PySem.W.kitOne K (.ref (He.ga K x)) (.ref (He.ga K y)) = some (decide (x = y)) := by
  by_cases e : x = y
  · subst e
    rw [decide_eq_true rfl]
    exact if_pos (by simp)
  · rw [decide_eq_false e]
    obtain ⟨q, N, bs, sn, sub, ab, col, dd, k0, k1, k2, k3, k5, lx⟩ := T.lk
    obtain ⟨q', N', bs', sn', sub', ab', col', dd', k0', k1', k2', k3', k5', ly⟩ := U.lk
    obtain ⟨q2, N2, bs2, bm2, sn2, sub2, ab2, col2, dd2, m0, m1, m2, m3, m5, nid, lb⟩ := hB
    have n1 : He.ga K x ≠ He.ga K y := fun z => by
      rw [z, ly] at lx
      have z1 := Option.some.inj lx
      simp only [excClassObj, Obj.mk.injEq, Data.cls.injEq, ClassData.mk.injEq] at z1
      exact e z1.2.2.1.1.symm
    have n2 : He.ga K b ≠ He.ga K y := fun z => by
      rw [z, ly] at lb
      have z1 := Option.some.inj lb
      simp only [excClassObj, Obj.mk.injEq, Data.cls.injEq, ClassData.mk.injEq] at z1
      exact hb z1.2.2.1.1
    have n3 : ¬ ((Value.ref (He.ga K x) == Value.ref (He.ga K y)) = true) := fun z => n1 (Value.ref.inj (beq_iff_eq.mp z))
    unfold PySem.W.kitOne
    rw [if_neg n3]
    show (if ((PySem.W.clsIn K (He.ga K y)).isSome && PySem.W.typeIn K (.ref (He.ga K y)) == some (.type "type")) = true then PySem.W.subIn K (.ref (He.ga K x)) (.ref (He.ga K y)) else none) = some false
    rw [if_pos (by rw [U.cl, U.ty]; rfl)]
    show PySem.W.mroIn K (He.ga K x) (.ref (He.ga K y)) = some false
    unfold PySem.W.mroIn PySem.W.clsIn
    rw [lx]
    have c1 : (Value.ref (He.ga K y) == Value.ref (He.ga K x)) = false := by
      rw [beq_eq_false_iff_ne]
      exact fun z => n1 (Value.ref.inj z).symm
    have c2 : (Value.ref (He.ga K y) == Value.ref (He.ga K b)) = false := by
      rw [beq_eq_false_iff_ne]
      exact fun z => n2 (Value.ref.inj z).symm
    simp [List.contains_cons, c1, c2, He.veBase]
    exact ⟨fun z => n1 z.symm, fun z => n2 z.symm⟩
end
end My

namespace My
open PySem PySem.Spec PyProof.Rows L2
/-! ### errors as values: made, asked for their class, read -/
section
variable {X : Cx} {e : Expr} {es : List Expr} {ta : TA} {te : TE} {p pos : Pos} {x b n : Str} {fs : List Str}
/-- X(), no __init__ of its own -/
theorem pe_exv0 (T : ExF X.K X.mg x b fs) (nf : fs = []) (hg : Gl X x) (dbg : (x == ("__debug__" : Str)) = false := by decide) :
    PE X (.Call (.Name x p) [] [] pos) (fun _ H Q => ∀ a, H a = none → Q (.ref a) (upd H a (exo a (He.ga X.K x) none))) := by
  refine ⟨fun pins s σ H Q I h => ?_⟩
  refine wpAny_Call_Name_kw (ld_glob I hg T.g ?_ dbg)
  refine PySem.W.callWith_K0 I.kIn T.kC ?_
  show wpAny _ _ (call (.ref (He.ga X.K x)) []) _ _ _
  obtain ⟨bm, N, nm, qn, bs, hdct, sn, sub, ab, col, dd, k0, k1, k2, k3, k5, mN, hC, hN, hni, TL⟩ := exc_obj I.kIn (T.new nf)
  refine wpAny_call_exc_subT PySem.F.excBase_ValueError TL hC hN hni (fun h' a hm => ?_) (by show 0 ≤ sizeLine; exact Nat.zero_le _)
  have hn : H a = none := I.hok.gone hm.new
  obtain ⟨tt, et, _, _⟩ := hm.there
  exact ⟨.ref a, _, I.laidN hm.keeps hm.new hn (exo_ok et), rfl, h a hn⟩
/-- the reading of X(e, ..) with an __init__ that keeps sp -/
def tExv (C : Addr) (sp : Sp) (ta : TA) : TE := fun σ H Q => ta σ H fun vs H1 => vs.length ≤ 1000 ∧ ∀ a, H1 a = none →
  sp (.ref a :: vs) (upd H1 a (exo a C none)) (fun v H2 => v = .non ∧ Q (.ref a) H2) fun _ _ _ => False
theorem pe_exv {CX : CXT} {k : Nat} {fI : Addr} {fd : FuncData} {ps : List Str} {sp : Sp} (T : ExF X.K X.mg x b fs) (nf : fs ≠ []) (ef : fI = He.ma X.K (He.ga X.K x) "__init__") (F1 : FnOk X.prog X.w X.K X.mg X.base CX k fI fd ps sp)
    (hr : Room (k + 1) X.A) (hb : Binds X.K fd ps []) (hx : Passes CX X (fun _ _ _ => False)) (hg : Gl X x) (ha : PA X (e :: es) ta)
    (dbg : (x == ("__debug__" : Str)) = false := by decide) (hst : starEach (e :: es) X.env = (false, eval e X.env) :: starEach es X.env := by rfl) (hpl : (backTo pos (starEach es X.env)).any (·.1) = false := by rfl) :
    PE X (.Call (.Name x p) (e :: es) [] pos) (tExv (He.ga X.K x) sp ta) := by
  subst ef
  refine ⟨fun pins s σ H Q I h => ?_⟩
  obtain ⟨iC, tI⟩ := T.ini nf
  obtain ⟨nm, q, N, bs, bm, sn, sub, ab, col, dd, k0, k1, k2, k3, k5, hC, hbm⟩ := T.ox.cls
  refine wpAny_Call_Name_kw (ld_glob I hg T.g ?_ dbg)
  refine PySem.W.callWith_K (h₀ := X.base) I.ok.mod.kin T.kC ?_ hst hpl
  refine thn (ha.run pos pins s σ H _ I h) fun us s1 hh => ?_
  obtain ⟨vs, H1, I1, r1, hz, q1⟩ := hh
  refine ⟨I1.kIn, ?_⟩
  show wpAny _ _ (call (.ref (He.ga X.K x)) us) _ _ _
  obtain ⟨hp, g, dr, tk, os⟩ := s1
  have hup : hp.objs.size ≤ hp.objs.size + 1 := Nat.le_succ _
  have hfr : H1 (hp.objs.size + 1) = none := I1.hok.fresh hup
  have hq := q1 _ hfr
  let h2 : Heap := (hp.push (PySem.W.kdv_tup us)).push (PySem.HandSPX.excO (He.ga X.K x) hp.objs.size)
  have kk : ∀ a o, hp.get? a = some o → h2.get? a = some o := fun a o z => Heap.get?_push_of_some _ (Heap.get?_push_of_some _ z)
  have hget : h2.get? (hp.objs.size + 1) = some (PySem.HandSPX.excO (He.ga X.K x) hp.objs.size) := by
    show ((hp.push (PySem.W.kdv_tup us)).push (PySem.HandSPX.excO (He.ga X.K x) hp.objs.size)).get? _ = _
    heap_get
  have I2 : Inv X pins σ (upd H1 (hp.objs.size + 1) (exo (hp.objs.size + 1) (He.ga X.K x) none)) ⟨h2, g, dr, tk, os⟩ := I1.laid (t' := tk) (h' := h2) kk hup (exo_ok hget)
  have rr : Vals (V.ref (hp.objs.size + 1) :: vs) (Value.ref (hp.objs.size + 1) :: us) := .cons rfl r1
  have hl : (Value.ref (hp.objs.size + 1) :: us).length = ps.length := by
    rw [← rr.length]
    exact F1.len _ _ _ _ hq
  have few : us.length ≤ sizeLine := by rw [← r1.length, sizeLine_eq]; omega
  have hbb := hb ⟨h2, g, dr, tk, os⟩ (Value.ref (hp.objs.size + 1) :: us) I2.kIn (by rw [List.append_nil]; exact hl)
  rw [List.append_nil] at hbb
  refine wpAny_call (PySem.HandSPX.call_own PySem.F.excBase_ValueError (fun Y => PySem.HandSPX.refsVE_contains Y bm hbm) (I1.kIn _ _ hC) (PySem.W.looks_findIn I1.kIn iC) (fun self => PySem.W.bind_fn I1.kIn self tI) few ?_)
  refine codeAny_mono (F1.run _ X.stack _ _ ⟨Value.ref (hp.objs.size + 1) :: us, []⟩ _ _ _ (fun _ _ _ => False) (hr.make (He.ga X.K x) us []) (I2.env0.make (He.ga X.K x) us []) hbb rr hq) fun r s' out => ?_
  cases r with
  | error er => exact hx pins σ _ _ er s' I2 out
  | ok fl =>
    cases fl with
    | ret u =>
      obtain ⟨v, H2, os2, bare2, un2, hok2, rv, ev, q2⟩ := out
      subst ev
      exact ⟨rv, .ref (hp.objs.size + 1), H2, I2.call' (ch := []) os2 un2 hok2 bare2 (fun b z => absurd z (by simp)), rfl, q2⟩
    | next => exact out.elim
    | brk => exact out.elim
    | cont => exact out.elim
/-- what the state knows of the error at a: tracked, or held by the suite -/
def ExKnown (H : Hp) (pn : List (Addr × Obj)) (C a : Addr) : Prop := (∃ d, H a = some (exo a C d) ∧ ∀ dd, d = some dd → ∃ fs, H dd = some (exd dd fs)) ∨
  ∃ oe, (a, oe) ∈ pn ∧ oe.cls = .ref C ∧ (∃ vs, oe.data = .fields vs) ∧ ∀ dd, oe.dict = some dd → ∃ fs, H dd = some (.xd fs)
/-- isinstance(e, c) -/
def rIsx (K : PySem.W.Frag) (mg : Str → Option Value) (pn : List (Addr × Obj)) : List V → Hp → VK → Prop := fun xs H Q => ∃ (a : Addr) (c : V) (cv : Value) (y z : Str) (gs : List Str) (r : Bool), xs = [.ref a, c] ∧ (∀ u, RelV c u → u = cv) ∧ ExF K mg y z gs ∧
  ExKnown H pn (He.ga K y) a ∧ PySem.W.kitOne K (.ref (He.ga K y)) cv = some r ∧ Q (.bl r) H
theorem call_isx (hn : PySem.W.specialIn X.K (.builtin "object.__class__") "__get__" = some (some (.builtin "getset_descriptor.__get__"))) (ht : PySem.W.takesIn X.K (.builtin "object.__class__") = some true) :
    CallR X (.builtin "isinstance") (rIsx X.K X.mg X.pn) := by
  intro pns s σ H xs us Q I r h
  obtain ⟨a, c, cv, y, z, gs, b, rfl, hcv, T, kn, e, q⟩ := h
  cases r with
  | cons rx rr =>
    cases rr with
    | cons rt rr =>
      cases rr
      cases rx
      have ec := hcv _ rt
      subst ec
      obtain ⟨oe, od, J⟩ : ∃ oe od, PySem.W.InstAt s.heap a oe (He.ga X.K y) od := by
        rcases kn with ⟨d, ea, hd⟩ | ⟨oe, hp, h1, ⟨vs, h2⟩, h3⟩
        · obtain ⟨t1, ho⟩ := exo_at I.hok ea
          cases d with
          | none => exact ⟨_, none, ⟨ho, rfl, rfl, trivial⟩⟩
          | some dd =>
            obtain ⟨f2, ed⟩ := hd dd rfl
            obtain ⟨mA, hns, _⟩ := exd_at I.hok ed
            obtain ⟨o2, ho2, _⟩ := lookIn_ns hns
            exact ⟨_, some o2, ⟨ho, rfl, rfl, ho2⟩⟩
        · obtain ⟨hget, _⟩ := I.pin (a, oe) (List.mem_append.mpr (.inl hp))
          obtain ⟨oc, dct, oda, osl⟩ := oe
          dsimp only at h1 h2 h3
          subst h1 h2
          cases dct with
          | none => exact ⟨_, none, ⟨hget, rfl, rfl, trivial⟩⟩
          | some dd =>
            obtain ⟨f2, ed⟩ := h3 dd rfl
            obtain ⟨mA, hns, _⟩ := (show ObjOk X.prog X.w H s.heap dd (.xd f2) from I.hok dd _ ed)
            obtain ⟨o2, ho2, _⟩ := lookIn_ns hns
            exact ⟨_, some o2, ⟨hget, rfl, rfl, ho2⟩⟩
      exact PySem.W.kia_one (PySem.W.kitx_exc T.cl T.ga T.gg T.exC T.ca hn ht T.mo) I.kIn J e (fun z => nomatch z) fun tk => ⟨.bl b, H, I.tok tk, rfl, q⟩
/-- e.f of a tracked error -/
def tXat (K : PySem.W.Frag) (mg : Str → Option Value) (f : Str) (te : TE) : TE := fun σ H Q => te σ H fun v H1 => ∃ (a d : Addr) (y z : Str) (gs : List Str) (fs : List (Str × V)) (u : V), v = .ref a ∧ ExF K mg y z gs ∧ f ∈ gs ∧
  H1 a = some (exo a (He.ga K y) (some d)) ∧ H1 d = some (exd d fs) ∧ fs.lookup f = some u ∧ Q u H1
theorem pe_xat (he : PE X e te) (hb : attributeBase e n X.env (eval e X.env) = eval e X.env := by rfl) : PE X (.Attribute e n pos) (tXat X.K X.mg n te) := by
  refine ⟨fun pins s σ H Q I h => ?_⟩
  refine attr_of hb (thn (he.run pins s σ H _ I h) fun u s1 hh => ?_)
  obtain ⟨v, H1, I1, rv, a, d, y, z, gs, fs, w, rfl, T, hf, ea, ed, l, q⟩ := hh
  cases rv
  obtain ⟨t1, ho⟩ := exo_at I1.hok ea
  obtain ⟨mA, hns, hr⟩ := exd_at I1.hok ed
  obtain ⟨od, hod, hl⟩ := lookIn_ns hns
  obtain ⟨uw, hu, ru⟩ := RelO.some_of (v := w) (o := mA n) (by rw [← l]; exact hr n)
  have J : PySem.W.InstAt s1.heap a _ (He.ga X.K y) (some od) := ⟨ho, rfl, rfl, hod⟩
  exact HandSPX.exc_get I1.kIn J T.ga T.gg T.exC (PySem.W.findObj_own T.dict (T.no n hf) rfl (by rw [hl, hu])) (handed_of ru) ⟨w, H1, I1.tok _, ru, q⟩
end
end My

namespace My
open PySem PySem.Spec PyProof.Rows L2
/-! ### the __init__ of an error -/
def spIni (C : Addr) (fs : List Str) : Sp := fun vs H Q _ => ∃ (a : Addr) (ys : List V), vs = .ref a :: ys ∧ ys.length = fs.length ∧ H a = some (exo a C none) ∧
  ∀ d H', H d = none → d ≠ a → H' a = some (exo a C (some d)) → H' d = some (exd d (fs.zip ys).reverse) → (∀ b o, b ≠ a → H b = some o → H' b = some o) → Q .non H'
/-- the def __init__ of the class x, as it stands -/
def AtI (K : PySem.W.Frag) (x q : Str) (st : Stmt) : Prop := ∃ fd, FunD K "__init__" q (defArgs st) (defBody st) (defScope st) [] [] (He.ma K (He.ga K x) "__init__") fd
def KeepsI (P : Program) (w : World) (K : PySem.W.Frag) (mg : Str → Option Value) (base : Heap) (x : Str) (fs : List Str) : Prop :=
  ∃ fd, FnOk P w K mg base CX0 1 (He.ma K (He.ga K x) "__init__") fd ("self" :: fs) (spIni (He.ga K x) fs) ∧ Binds K fd ("self" :: fs) []
section
variable {P : Program} {w : World} {K : PySem.W.Frag} {mg : Str → Option Value} {base : Heap}
abbrev bindsI (st : Stmt) (q : Str) (ps : List Str) : Prop := ∀ (kV doc pm : Value) (an : Option Addr) (cdv ct : Value) (us : List Value), us.length = ps.length → bindArgs (PySem.W.fnOf "__init__" q (defArgs st) (defBody st) (defScope st) .none kV doc pm an cdv ct) ⟨us, []⟩ = pure (ps.zip us)
theorem ini_of {x q : Str} {st : Stmt} {fs : List Str} (F : AtI K x q st) (S : FnScope ("self" :: fs) ("self" :: fs) (defScope st)) (hb : bindsI st q ("self" :: fs))
    (hbody : ∀ (fd : FuncData) (cdv : Value) (A : Around) (outer : List Env) (s : Shared) (H : Hp) (vs : List V) (Q : VK) (E : XK), spIni (He.ga K x) fs vs H Q E →
      ∃ t, PSs (cxOf CX0 P w K mg base ("self" :: fs) q (defScope st) (He.ma K (He.ga K x) "__init__") cdv A outer s H E).nox (defBody st) t ∧ t { nx := fun _ H' => Q .non H', rt := Q } (start ("self" :: fs) vs) H) :
    KeepsI P w K mg base x fs := by
  obtain ⟨fd, F⟩ := F
  refine ⟨fd, F.ok S (fun vs H Q E h => ?_) (fun cdv A outer s H vs Q E hr h => ?_), F.bindsN hb⟩
  · obtain ⟨a, ys, rfl, hl, _⟩ := h
    simp only [List.length_cons, hl]
  · obtain ⟨t, h1, h2⟩ := hbody fd cdv A outer s H vs Q E h
    exact ⟨t, h1.nox, h2⟩
theorem one_of {ys : List V} (h : ys.length = 1) : ∃ y, ys = [y] := match ys, h with | [y], _ => ⟨y, rfl⟩
theorem two_of {ys : List V} (h : ys.length = 2) : ∃ y z, ys = [y, z] := match ys, h with | [y, z], _ => ⟨y, z, rfl⟩
theorem three_of {ys : List V} (h : ys.length = 3) : ∃ y z u, ys = [y, z, u] := match ys, h with | [y, z, u], _ => ⟨y, z, u, rfl⟩
theorem ki_TooLong (F : AtI K "TooLong" "TooLong.__init__" (inClass (top 12) 0)) (T : ExF K mg "TooLong" "BookError" ["most"]) : KeepsI P w K mg base "TooLong" ["most"] := by
  refine ini_of F ⟨rfl, rfl, rfl, by decide +kernel, rfl, by decide +kernel, by decide +kernel⟩ (fun _ _ _ _ _ _ us hl => match us, hl with | [_, _], _ => rfl) (fun fd cdv A outer s H vs Q E h => ?_)
  obtain ⟨a, ys, rfl, hl, ha, k⟩ := h
  obtain ⟨y, rfl⟩ := one_of hl
  refine ⟨_, pss_one (ps_ost (pv 0) (pv 1)), ?_⟩
  refine ⟨_, rfl, _, rfl, a, _, rfl, T.ox, T.no _ (by decide), .inl ⟨ha, fun d hd hne => ?_⟩⟩
  refine k d _ hd hne upd_same ?_ fun b o hb e => ?_
  · rw [upd_ne hne, upd_same]
    rfl
  · rw [upd_ne hb, upd_ne (ne_of_none e hd)]
    exact e
end
end My
set_option Elab.async false
set_option linter.all false
set_option maxRecDepth 100000
set_option maxHeartbeats 8000000
namespace My
open PySem PySem.Spec PyProof.Rows L2
local macro_rules | `(tactic| walk_at "lv") => `(tactic| first | exact Or.inl rfl | exact Or.inr rfl)
/-- the lists of numbers that tell T -/
structure Told (T : Tl) (ins us ds : List Int) : Prop where
  i : ∀ n ∈ ins, T.lo ≤ n ∧ n ≤ T.hi
  ic : ∀ k : Nat, k < T.cs.length → T.cs.getD k false = decide (T.lo + (k : Int) ∈ ins)
  u : ∀ n ∈ us, 0 ≤ n ∧ n ≤ (T.us.length : Int) - 1
  uc : ∀ k : Nat, k < T.us.length → T.us.getD k false = decide ((0 : Int) + (k : Int) ∈ us)
  d : ∀ n ∈ ds, 0 ≤ n ∧ n ≤ (T.us.length : Int) - 1
  dc : ∀ k : Nat, k < T.us.length → T.ds.getD k false = decide ((0 : Int) + (k : Int) ∈ ds)
theorem getD_ext {as bs : List Bool} (hl : as.length = bs.length) (h : ∀ k, k < as.length → as.getD k false = bs.getD k false) : as = bs := by
  refine List.ext_getElem hl fun k h1 h2 => ?_
  have := h k h1
  rw [List.getD_eq_getElem?_getD, List.getD_eq_getElem?_getD, List.getElem?_eq_getElem h1, List.getElem?_eq_getElem h2] at this
  exact this
def insOf (T : Tl) (lo hi : Int) : List Int := fil T.has lo (hi + 1 - lo).toNat
def resOf (f : Int → Bool) (d : Nat) : List Int := fil f 0 d
theorem res_take {l : List Bool} {d : Nat} (hd : d ≤ l.length) : res (l.take d) = resOf (cyc l) d := by
  have hl : (l.take d).length = d := by rw [List.length_take]; omega
  unfold res resOf
  rw [hl]
  refine fil_cong fun x h1 h2 => ?_
  have e : x = ((x.toNat : Nat) : Int) := by omega
  have q := cyc_lt (l := l) (k := x.toNat) (by omega)
  rw [← e] at q
  rw [q, List.getD_eq_getElem?_getD, List.getD_eq_getElem?_getD, List.getElem?_take, if_pos (by omega)]
/-- the made lot, or the error -/
def LotEnd (K : PySem.W.Frag) (T : Tl) (H : Hp) (Q : VK) (E : XK) : Prop :=
  (∀ p lo hi d H', IsForm T.has T.U T.D lo hi d → -20000 ≤ lo → hi ≤ 20000 → Same H H' → LotAt (He.ga K "Lot") H' p lo hi (insOf T lo hi) d (resOf T.U d) (resOf T.D d) → Q (.ref p) H') ∧
  (∀ lo hi d dd H', IsForm T.has T.U T.D lo hi d → (lo < -20000 ∨ 20000 < hi) → Same H H' → H' dd = some (.xd [("most", .int 20000)]) → E (.ref (He.ga K "TooLong")) (some dd) H')
theorem LotEnd.same {K : PySem.W.Frag} {T : Tl} {H H' : Hp} {Q : VK} {E : XK} (s : Same H H') (h : LotEnd K T H Q E) : LotEnd K T H' Q E :=
  ⟨fun p lo hi d H2 f a b s2 l => h.1 p lo hi d H2 f a b (s.trans s2) l, fun lo hi d dd H2 f a s2 e => h.2 lo hi d dd H2 f a (s.trans s2) e⟩
def spLotOf (K : PySem.W.Frag) : Sp := fun vs H Q E => ∃ (T : Tl) (a b c : Addr) (ins us ds : List Int), vs = [.int T.lo, .int T.hi, .ref a, .int T.us.length, .ref b, .ref c] ∧ T.Near ∧ T.cs.length < 1000 ∧ Told T ins us ds ∧ SqA H a (ins.map V.int) ∧ SqA H b (us.map V.int) ∧ SqA H c (ds.map V.int) ∧ LotEnd K T H Q E
abbrev s_lotof : Stmt := top 23
abbrev N_lotof : List Str := ["low", "high", "inside", "modulus", "ups", "downs", "ups_flags", "downs_flags", "core", "top", "bottom", "number"]
theorem sc_lotof : FnScope N_lotof ["low", "high", "inside", "modulus", "ups", "downs"] (defScope s_lotof) := ⟨rfl, rfl, rfl, by decide +kernel, rfl, by decide +kernel, by decide +kernel⟩
/-- what the walks ask of the class Lot and of TooLong -/
structure Lots (P : Program) (w : World) (K : PySem.W.Frag) (mg : Str → Option Value) (base : Heap) : Prop where
  t : LotTxt K mg (He.ga K "Lot")
  m : Mk K (He.ga K "Lot") (He.ma K (He.ga K "Lot") "__init__")
  i : KeepsM P w K mg base (He.ma K (He.ga K "Lot") "__init__") 1 ["self", "low", "high", "inside", "modulus", "ups", "downs"] (spLotI (He.ga K "Lot"))
  xt : ExF K mg "TooLong" "BookError" ["most"]
  xi : KeepsI P w K mg base "TooLong" ["most"]
theorem pmk_tl {X : Cx} {k : Nat} {e : Expr} {es : List Expr} {ta : TA} {p pos : Pos} (S : Lots X.prog X.w X.K X.mg X.base) (hr : Room (k + 2) X.A) (hg : Gl X "TooLong") (ha : PA X (e :: es) ta)
    (dbg : (("TooLong" : Str) == ("__debug__" : Str)) = false := by decide) (hst : starEach (e :: es) X.env = (false, eval e X.env) :: starEach es X.env := by rfl) (hpl : (backTo pos (starEach es X.env)).any (·.1) = false := by rfl) :
    PMk X (.Call (.Name "TooLong" p) (e :: es) [] pos) (tMkO (He.ga X.K "TooLong") (spIni (He.ga X.K "TooLong") ["most"]) [] ta) := by
  obtain ⟨fd, F, b⟩ := S.xi
  obtain ⟨iC, tI⟩ := S.xt.ini (fun z => nomatch z)
  exact pmk_oex S.xt.ox iC tI F (hr.mono (by omega)) b .nil pass0 hg S.xt.g ha dbg hst hpl
/-- the reading of the making, with the way out -/
theorem mko_ok {K : PySem.W.Frag} {C : Addr} {fs : List Str} {ta : TA} {σ : L2.St} {H : Hp} {W : XK} {ys : List V} (ht : ∀ Q : List V → Hp → Prop, Q ys H → ta σ H Q) (hl : ys.length = fs.length) (h9 : ys.length ≤ 1000)
    (hW : ∀ d H', Same H H' → H' d = some (.xd (fs.zip ys).reverse) → W (.ref C) (some d) H') : tMkO C (spIni C fs) [] ta σ H W := by
  refine ht _ ⟨h9, fun a ha => ⟨a, ys, (by rw [List.append_nil]), hl, upd_same, fun d H' hd hne e1 e2 k1 => ⟨rfl, d, _, e1, e2, ?_, ?_⟩⟩⟩
  · rw [upd_ne hne] at hd
    exact hd
  · refine hW d _ (fun b o z => ?_) upd_same
    have nba : b ≠ a := ne_of_none z ha
    have nbd : b ≠ d := fun q => by
      rw [upd_ne hne] at hd
      rw [q, hd] at z
      cases z
    rw [upd_ne nbd, del_ne nba]
    exact k1 b o nba (by rw [upd_ne nba]; exact z)
section
variable {P : Program} {w : World} {K : PySem.W.Frag} {mg : Str → Option Value} {base : Heap}
theorem kp_lotof (F : At K mg "_lot_of" s_lotof) (N : Nb mg) (S : Lots P w K mg base) (mF : ∃ t, mg "FARTHEST" = some (.int 20000 t)) (Gf : Keeps CX0 P w K mg base "_flags" 1 ["low", "high", "numbers"] spFlags) (Gm : Keeps CX0 P w K mg base "_least_modulus" 2 ["ups", "downs"] spLM)
    (Gg : Keeps CX0 P w K mg base "_greatest_wrong" 1 ["low", "core", "ups", "downs"] spGW) (Gl_ : Keeps CX0 P w K mg base "_least_wrong" 1 ["low", "core", "ups", "downs"] spLW) (Gp : Keeps CX0 P w K mg base "_places_of" 1 ["flags"] spPlaces) :
    Keeps (CX P w) P w K mg base "_lot_of" 3 ["low", "high", "inside", "modulus", "ups", "downs"] (spLotOf K) := by
  refine keeps_ofX F sc_lotof (fun _ _ _ _ _ _ us hl => match us, hl with | [_, _, _, _, _, _], _ => rfl) (fun vs H Q E h => ?_) (fun f cdv A outer s H vs Q E hr h => ?_)
  · obtain ⟨T, a, b, c, ins, us, ds, rfl, _⟩ := h
    rfl
  · obtain ⟨T, a, b, c, ins, us, ds, rfl, near, hc9, told, ha, hb, hc, k⟩ := h
    obtain ⟨fdI, FI, bI⟩ := S.i
    obtain ⟨tF, mF⟩ := mF
    have hu := hu_of hr
    have hm := near.ok.pos
    have hm1 := near.m
    have hlo := near.lo
    have hhi : T.hi = T.lo + T.cs.length - 1 := rfl
    obtain ⟨tl, dtl, tail⟩ : ∃ tl, PSs (cxOf (CX P w) P w K mg base N_lotof "_lot_of" (defScope s_lotof) f cdv A outer s H E) ((defBody s_lotof).drop 8) tl ∧ ∀ (H1 : Hp) (lo hi : Int) (d : Nat) (p3 q1 q2 : Addr), IsForm T.has T.U T.D lo hi d → d ≤ T.us.length → -(3 * 10 ^ 31) ≤ lo → lo ≤ 3 * 10 ^ 31 → -(3 * 10 ^ 31) ≤ hi → hi ≤ 3 * 10 ^ 31 → hi + 1 - lo < 1000 →
        (∀ n, lo ≤ n → n ≤ hi → T.lo ≤ n ∧ n ≤ T.hi) → Same H H1 → H1 p3 = some (.lst (T.cs.map V.bl)) → H1 q1 = some (.lst ((T.us.take d).map V.bl)) → H1 q2 = some (.lst ((T.ds.take d).map V.bl)) →
        tl { nx := fun _ H' => Q .non H', rt := Q } [some (V.int T.lo), some (V.int T.hi), some (V.ref a), some (V.int d), some (V.ref b), some (V.ref c), some (V.ref q1), some (V.ref q2), some (V.ref p3), some (V.int hi), some (V.int lo), none] H1 := by
      refine ⟨_, (pss_cons (ps_if (PW.pt (pw_or (pt_cmpR op_lt (pv 10) (pe_un un_neg (pe_glob (v := .int 20000) (by rfl) mF ⟨_, rfl⟩)) (nomark _)) (pw_or1 (pt_cmpR op_gt (pv 9) (pe_glob (v := .int 20000) (by rfl) mF ⟨_, rfl⟩) (nomark _))))) (pss_one (ps_raise rfl (takes_of rfl rfl rfl rfl) (by exact pmk_tl S hr (by rfl) (pa_cons (pe_glob (v := .int 20000) (by rfl) mF ⟨_, rfl⟩) pa_nil)))) pss_nil)
        (pss_cons (ps_setLc (i := 2) (own := [("number", 11)]) (g := gName 11) rfl sc_lotof.nd rfl rfl (sw_true rfl rfl rfl (by decide +kernel)) (pi_range2 (by rfl) N.range (pa_cons (pv 10) (pa_cons (pe_op op_add (pv 9) pe_int) pa_nil))) (blkOk_by (N := N_lotof) (sc := defScope s_lotof) (by decide +kernel)) (fun _ _ _ _ _ => (pg_name (i := 11) sc_lotof.nd rfl (by walk_at "lv"))) (fun _ _ _ _ _ => (pts_one (pt_val (pe_ix ix_list (r := rIxL K) (pv 8) (pe_op op_sub (pv 11) (pv 0)) (fun _ _ => rfl))))) (fun _ _ _ _ _ => (pv 11)))
        (pss_one (ps_ret (pe_make S.m FI (hr.mono (by decide)) (by rfl) S.t.mgC bI .nil pass0 (pa_cons (pv 10) (pa_cons (pv 9) (pa_cons (pv 2) (pa_cons (pv 3) (pa_cons (pe_k Gp (hr.mono (by decide)) (by rfl) pass0 (pa_cons (pv 6) pa_nil)) (pa_cons (pe_k Gp (hr.mono (by decide)) (by rfl) pass0 (pa_cons (pv 7) pa_nil)) pa_nil))))))))))), ?_⟩
      intro H1 lo hi d p3 q1 q2 fm hd b1 b2 b3 b4 b5 sub s1 e3 e1 e2
      refine ⟨_, rfl, _, rfl, _, _, rfl, rfl, _, rfl, ?_⟩
      have boom : (lo < -20000 ∨ 20000 < hi) → tMkO (He.ga K "TooLong") (spIni (He.ga K "TooLong") ["most"]) [] (tCons (tC (.int 20000)) tNil) [some (V.int T.lo), some (V.int T.hi), some (V.ref a), some (V.int d), some (V.ref b), some (V.ref c), some (V.ref q1), some (V.ref q2), some (V.ref p3), some (V.int hi), some (V.int lo), none] H1 (fun cls d H' => E cls d H') := fun hx =>
        mko_ok (K := K) (ys := [.int 20000]) (fun _ q => q) rfl (by show 1 ≤ 1000; decide) fun dd H' s2 ed => k.2 lo hi d dd H' fm hx (s1.trans s2) ed
      refine ite2 (fun h1 => boom (.inl (of_decide_eq_true h1))) (fun h1 => ?_)
      have h1 : ¬ lo < -20000 := fun z => h1 (decide_eq_true z)
      refine ⟨_, rfl, _, _, rfl, rfl, _, rfl, ?_⟩
      refine ite2 (fun h2 => boom (.inr (of_decide_eq_true h2))) (fun h2 => ?_)
      have h2 : ¬ 20000 < hi := fun z => h2 (decide_eq_true z)
      have hz := fm.size
      refine ⟨_, rfl, _, rfl, _, _, rfl, rfl, _, _, rfl, ⟨by omega, by omega, by omega, by omega⟩, fun D hD => ?_⟩
      refine lc_itF (G := fun _ => True) walk_range hD (fun i => (fil T.has lo i).map V.int) rfl (fun i hi' => small1000 (by rw [List.length_map]; exact Nat.le_trans (fil_len _ _ _) (by omega))) (fun _ _ => trivial) ?_ ?_ ?_ ?_ ?_
      · rintro i x H2 H3 hi' eD s2 ⟨rfl, rfl⟩
        have sb := sub (lo + (i : Int)) (by omega) (by omega)
        have g : atI (T.cs.map V.bl) (lo + (i : Int) - T.lo) = some (.bl (T.has (lo + (i : Int)))) := by
          rw [blI_get (by omega) (by omega), Tl.core sb.1 sb.2]
        refine ⟨rfl, _, rfl, _, rfl, _, rfl, _, _, rfl, rfl, p3, _, _, _, rfl, rfl, SqL.of (s2 _ _ e3), g, _, rfl, ?_⟩
        cases hb' : T.has (lo + (i : Int)) with
        | false =>
          refine iteF ⟨eD, s2, ?_⟩
          rw [fil_neg (by rw [hb']; exact Bool.false_ne_true)]
        | true =>
          refine iteT ⟨_, rfl, eD, s2, ?_⟩
          rw [fil_pos hb', List.map_append]
          rfl
      · exact fun x H' Q Q' h q => h _ _ q
      · rintro σ2 H2 Q1 Q2 h ⟨x1, h1, x2, h2, x3, h3, i, j, f1, f2, p, xs, ii, v, f3, f4, sq, at_, k, ek, q⟩
        exact ⟨x1, h1, x2, h2, x3, h3, i, j, f1, f2, p, xs, ii, v, f3, f4, sq, at_, k, ek, h _ _ q⟩
      · rintro σ2 H2 Q1 Q2 h ⟨v, hv, q⟩
        exact ⟨v, hv, h _ _ q⟩
      · intro H4 eD s4
        have ht : ∀ l : List Bool, (l.take d).length ≤ d := fun l => by rw [List.length_take]; omega
        have htu := ht T.us
        have htd := ht T.ds
        refine ⟨_, rfl, _, rfl, _, rfl, _, rfl, _, rfl, q1, T.us.take d, rfl, s4 _ _ e1, by omega, fun r1 H5 n5 s5 e5 => ?_⟩
        refine ⟨_, rfl, q2, T.ds.take d, rfl, s5 _ _ (s4 _ _ e2), by omega, fun r2 H6 n6 s6 e6 => ?_⟩
        intro x dx hx hdx ne
        have sx : ∀ b o, H6 b = some o → (upd (upd H6 dx (.own x)) x (.ins (He.ga K "Lot") dx [])) b = some o := fun b o e => by
          rw [upd_ne (ne_of_none e hx), upd_ne (ne_of_none e hdx)]
          exact e
        refine ⟨x, dx, D, r1, r2, lo, hi, d, insOf T lo hi, resOf T.U d, resOf T.D d, rfl, upd_same, sx _ _ (s6 _ _ (s5 _ _ eD)), ?_, ?_, fun H7 la keep => ⟨rfl, ?_⟩⟩
        · refine sx _ _ (s6 _ _ ?_)
          rw [e5, res_take hd]
          rfl
        · refine sx _ _ ?_
          rw [e6, res_take (by rw [near.ok.len]; exact hd)]
          rfl
        · refine k.1 x lo hi d H7 fm (by omega) (by omega) (fun b o e => ?_) la
          have e' := s6 _ _ (s5 _ _ (s4 _ _ (s1 _ _ e)))
          exact keep b o (ne_of_none e' hx) (sx _ _ e')
    refine ⟨_, (pss_cons (ps_set (i := 6) sc_lotof.nd rfl (by walk_at "lv") (pe_k Gf (hr.mono (by decide)) (by rfl) pass0 (pa_cons pe_int (pa_cons (pe_op op_sub (pv 3) pe_int) (pa_cons (pv 4) pa_nil)))))
        (pss_cons (ps_set (i := 7) sc_lotof.nd rfl (by walk_at "lv") (pe_k Gf (hr.mono (by decide)) (by rfl) pass0 (pa_cons pe_int (pa_cons (pe_op op_sub (pv 3) pe_int) (pa_cons (pv 5) pa_nil)))))
        (pss_cons (ps_set (i := 8) sc_lotof.nd rfl (by walk_at "lv") (pe_k Gf (hr.mono (by decide)) (by rfl) pass0 (pa_cons (pv 0) (pa_cons (pv 1) (pa_cons (pv 2) pa_nil)))))
        (pss_cons (ps_set (i := 3) sc_lotof.nd rfl (by walk_at "lv") (pe_k Gm hr (by rfl) pass0 (pa_cons (pv 6) (pa_cons (pv 7) pa_nil))))
        (pss_cons (ps_set (i := 6) sc_lotof.nd rfl (by walk_at "lv") (pe_slice sl_list (pv 6) po_none (po_some (pv 3))))
        (pss_cons (ps_set (i := 7) sc_lotof.nd rfl (by walk_at "lv") (pe_slice sl_list (pv 7) po_none (po_some (pv 3))))
        (pss_cons (ps_set (i := 9) sc_lotof.nd rfl (by walk_at "lv") (pe_k Gg (hr.mono (by decide)) (by rfl) pass0 (pa_cons (pv 0) (pa_cons (pv 8) (pa_cons (pv 6) (pa_cons (pv 7) pa_nil))))))
        (pss_cons (ps_if (pt_cmpR op_isN (pv 9) pe_non (nomark _)) (pss_one (ps_asg (pe_tup (pa_cons pe_int (pa_cons (pe_un un_neg pe_int) pa_nil))) (pg_tup (by rfl) (pgs_cons (pg_name (i := 10) sc_lotof.nd rfl (by walk_at "lv")) (pgs_cons (pg_name (i := 9) sc_lotof.nd rfl (by walk_at "lv")) pgs_nil))))) (pss_one (ps_set (i := 10) sc_lotof.nd rfl (by walk_at "lv") (pe_callB (call_min2 rfl) (by rfl) N.min (by decide +kernel) (pa_cons (pe_k Gl_ (hr.mono (by decide)) (by rfl) pass0 (pa_cons (pv 0) (pa_cons (pv 8) (pa_cons (pv 6) (pa_cons (pv 7) pa_nil))))) (pa_cons (pe_op op_add (pv 9) pe_int) pa_nil))))))
        dtl)))))))), ?_⟩
    refine ⟨_, rfl, _, _, rfl, rfl, _, rfl, b, us, _, _, rfl, hb, by omega, by omega, by omega, by omega, told.u, fun p1 bs1 H1 n1 s1 e1 l1 g1 => ?_⟩
    have eb1 : bs1 = T.us := getD_ext (by omega) fun k hk => by rw [g1 k hk, told.uc k (by omega)]
    subst eb1
    refine ⟨_, rfl, _, _, rfl, rfl, _, rfl, c, ds, _, _, rfl, hc.same s1, by omega, by omega, by omega, by omega, told.d, fun p2 bs2 H2 n2 s2 e2 l2 g2 => ?_⟩
    have eb2 : bs2 = T.ds := getD_ext (by rw [near.ok.len]; omega) fun k hk => by rw [g2 k hk, told.dc k (by omega)]
    subst eb2
    refine ⟨_, rfl, _, rfl, _, rfl, a, ins, _, _, rfl, (ha.same s1).same s2, by omega, by omega, by omega, by omega, told.i, fun p3 bs3 H3 n3 s3 e3 l3 g3 => ?_⟩
    have eb3 : bs3 = T.cs := getD_ext (by omega) fun k hk => by rw [g3 k hk, told.ic k (by omega)]
    subst eb3
    refine ⟨_, rfl, _, rfl, p1, p2, T.us, T.ds, rfl, s3 _ _ (s2 _ _ e1), s3 _ _ e2, near.ok.len, hm, hm1, fun H4 d s4 ld hd => ?_⟩
    have cut : ∀ l : List Bool, d ≤ l.length → cutV (l.map V.bl) none (some (d : Int)) = (l.take d).map V.bl := fun l hl => by
      unfold cutV
      rw [HT.sIx_none, HT.sIx_nat, List.drop_zero, List.length_map, Nat.min_eq_left hl, List.map_take]
      rfl
    refine ⟨_, rfl, _, rfl, _, rfl, p1, _, rfl, SqL.of (s4 _ _ (s3 _ _ (s2 _ _ e1))), fun q1 hq1 => ?_⟩
    rw [cut _ hd]
    have s5 := same_new (o := .lst ((T.us.take d).map V.bl)) s4 hq1
    refine ⟨_, rfl, _, rfl, _, rfl, p2, _, rfl, SqL.of (s5 _ _ (s3 _ _ e2)), fun q2 hq2 => ?_⟩
    rw [cut _ (by rw [near.ok.len]; exact hd)]
    have s6 := same_new (o := .lst ((T.ds.take d).map V.bl)) s5 hq2
    have s36 : Same H _ := (s1.trans (s2.trans s3)).trans s6
    have hq12 : q1 ≠ q2 := ne_of_none upd_same hq2
    have d0 := ld.pos
    have eU : cyc (T.us.take d) = cyc T.us := cyc_take d0 hd ld.pu
    have eD : cyc (T.ds.take d) = cyc T.ds := cyc_take d0 (by rw [near.ok.len]; exact hd) ld.pd
    have eH : (Tl.mk T.lo T.cs (T.us.take d) (T.ds.take d)).has = T.has := by
      funext n
      unfold Tl.has Tl.U Tl.D
      simp only [eU, eD]
      rfl
    have lu : (T.us.take d).length = d := by rw [List.length_take]; omega
    have lds : (T.ds.take d).length = d := by rw [List.length_take, near.ok.len]; omega
    have near' : (Tl.mk T.lo T.cs (T.us.take d) (T.ds.take d)).Near := ⟨⟨by show (T.ds.take d).length = (T.us.take d).length; rw [lu, lds], by show 0 < (T.us.take d).length; rw [lu]; exact d0⟩, by show (T.us.take d).length ≤ 1000; omega, near.c, near.lo⟩
    have at' : TlAt (upd (upd H4 q1 (.lst ((T.us.take d).map V.bl))) q2 (.lst ((T.ds.take d).map V.bl))) (Tl.mk T.lo T.cs (T.us.take d) (T.ds.take d)) p3 q1 q2 := ⟨s6 _ _ e3, by rw [upd_ne hq12]; exact upd_same, upd_same⟩
    refine ⟨_, rfl, _, rfl, _, rfl, _, rfl, Tl.mk T.lo T.cs (T.us.take d) (T.ds.take d), p3, q1, q2, rfl, at', near', fun no => ?_, fun v h1 h2 h3 => ?_⟩
    · have no' : ∀ n, T.has n = T.U n := fun n => by
        have := no n
        rw [eH] at this
        rw [this]
        show cyc (T.us.take d) n = cyc T.us n
        rw [eU]
      refine ⟨_, rfl, rfl, _, rfl, iteT ?_⟩
      refine ⟨_, rfl, ⟨(by show 2 ≤ sizeLine; decide), fun t ht => ⟨t, _, rfl, SqT.of upd_same, rfl, _, _, rfl, _, _, rfl, rfl, ?_⟩⟩⟩
      have s7 := same_new (o := .tup [V.int 0, V.int (-1)]) s36 ht
      have st := same_new (o := .tup [V.int 0, V.int (-1)]) (Same.refl _) ht
      exact tail _ 0 (-1) d p3 q1 q2 (form_none near.ok ld no') hd (by omega) (by omega) (by omega) (by omega) (by omega) (fun n h1 h2 => by omega) s7 (st _ _ at'.cs) (st _ _ at'.us) (st _ _ at'.ds)
    · have h1' : T.has v ≠ T.U v := fun z => h1 (by
        rw [eH, z]
        show cyc T.us v = cyc (T.us.take d) v
        rw [eU])
      have h2' : ∀ n, v < n → T.has n = T.U n := fun n hn => by
        have := h2 n hn
        rw [eH] at this
        rw [this]
        show cyc (T.us.take d) n = cyc T.us n
        rw [eU]
      have h3' : v ≤ T.hi := h3
      refine ⟨_, rfl, rfl, _, rfl, iteF ?_⟩
      refine ⟨_, rfl, _, rfl, _, rfl, _, rfl, Tl.mk T.lo T.cs (T.us.take d) (T.ds.take d), p3, q1, q2, rfl, at', near', ⟨v, h1⟩, fun b H7 s7 b1 b2 b3 => ?_⟩
      refine ⟨_, rfl, _, _, rfl, rfl, _, _, rfl, ?_⟩
      have b1' : T.has b ≠ T.D b := fun z => b1 (by
        rw [eH, z]
        show cyc T.ds b = cyc (T.ds.take d) b
        rw [eD])
      have b2' : ∀ n, n < b → T.has n = T.D n := fun n hn => by
        have := b2 n hn
        rw [eH] at this
        rw [this]
        show cyc (T.ds.take d) n = cyc T.ds n
        rw [eD]
      have b3' : T.lo ≤ b := b3
      have vlo : T.lo - T.m ≤ v := by
        rcases Int.lt_or_le v (T.lo - T.m) with q | q
        · refine absurd ?_ h1'
          have hm2 : (0 : Int) < (T.m : Int) := by unfold Tl.m; omega
          have q1 := h2' (v + T.m) (by omega)
          rw [Tl.below (by omega), near.ok.pd, near.ok.pu] at q1
          rw [Tl.below (by omega)]
          exact q1
        · exact q
      have hmm : T.m = T.us.length := rfl
      have fm := form_some ld h1' h2' b1' b2'
      refine tail H7 (if v + 1 < b then v + 1 else b) v d p3 q1 q2 fm hd ?_ ?_ (by omega) (by omega) ?_ ?_ (s36.trans s7) (s7 _ _ at'.cs) (s7 _ _ at'.us) (s7 _ _ at'.ds)
      · split <;> omega
      · split <;> omega
      · split <;> omega
      · intro n hn1 hn2
        split at hn1 <;> omega
end
end My
set_option Elab.async false
set_option linter.all false
set_option maxRecDepth 100000
set_option maxHeartbeats 8000000
namespace My
open PySem PySem.Spec PyProof.Rows L2
local macro_rules | `(tactic| walk_at "lv") => `(tactic| first | exact Or.inl rfl | exact Or.inr rfl)
/-- a telling stands at t -/
structure TellAt (H : Hp) (t : Addr) (T : Tl) (c u d : Addr) : Prop where
  t : H t = some (.lst [.int T.lo, .int T.hi, .ref c, .int T.us.length, .ref u, .ref d])
  l : TlAt H T c u d
theorem TellAt.same {H H' : Hp} {t : Addr} {T : Tl} {c u d : Addr} (s : Same H H') (h : TellAt H t T c u d) : TellAt H' t T c u d := ⟨s _ _ h.t, h.l.same s⟩
theorem erase_map {α β : Type} (f : α → β) : ∀ (xs : List α) (k : Nat), (xs.map f).eraseIdx k = (xs.eraseIdx k).map f
  | [], _ => rfl
  | _ :: _, 0 => rfl
  | x :: r, k + 1 => by
    show f x :: (r.map f).eraseIdx k = f x :: (r.eraseIdx k).map f
    rw [erase_map f r k]
theorem log_small {n : Nat} (h : n ≤ 1000) : (n : Int).natAbs.log2 < 9000 := by
  have : (n : Int).natAbs.log2 ≤ (n : Int).natAbs := Nat.log2_le_self _
  omega
theorem perm_erase {α : Type} : ∀ {xs : List α} {k : Nat} (h : k < xs.length), ([xs[k]] ++ xs.eraseIdx k).Perm xs
  | x :: r, 0, _ => List.Perm.refl _
  | x :: r, k + 1, h => by
    have h' : k < r.length := by simpa using h
    show ([r[k]] ++ (x :: r.eraseIdx k)).Perm (x :: r)
    exact (List.Perm.swap _ _ _).trans ((perm_erase h').cons x)
section
variable {P : Program} {w : World} {K : PySem.W.Frag} {mg : Str → Option Value} {base : Heap}
/-! ### _law_whole -/
abbrev s_lwh : Stmt := top 57
abbrev N_lwh : List Str := ["_law_thing"]
theorem sc_lwh : FnScope N_lwh ["_law_thing"] (defScope s_lwh) := ⟨rfl, rfl, rfl, by decide +kernel, rfl, by decide +kernel, by decide +kernel⟩
theorem kp_lwh (F : At K mg "_law_whole" s_lwh) (N : Nb mg) : Keeps CX0 P w K mg base "_law_whole" 1 ["_law_thing"] spWhole := by
  refine keeps_of F sc_lwh (fun _ _ _ _ _ _ us hl => match us, hl with | [_], _ => rfl) (fun vs H Q E h => ?_) (fun f cdv A outer s H vs Q E hr h => ?_)
  · obtain ⟨a, rfl, _⟩ := h
    rfl
  · obtain ⟨a, rfl, k⟩ := h
    refine ⟨_, (pss_one (ps_ret (pe_and (pe_callB call_isi (by rfl) N.isinstance boot_isinstance (pa_cons (pv 0) (pa_cons (pe_bltn (v := .ty "int") (by rfl) N.int (by decide +kernel) rfl) pa_nil))) (pe_one (pe_not (pe_callB call_isi (by rfl) N.isinstance boot_isinstance (pa_cons (pv 0) (pa_cons (pe_bltn (v := .ty "bool") (by rfl) N.bool (by decide +kernel) rfl) pa_nil)))))))), ?_⟩
    refine ⟨_, rfl, .int a, .ty "int", _, _, true, rfl, .ty "int", .base (.int a), kit_ty (by decide +kernel), _, rfl, ?_⟩
    exact ⟨_, rfl, .int a, .ty "bool", _, _, false, rfl, .ty "bool", .base (.int a), kit_ty (by decide +kernel), _, rfl, k⟩
/-! ### _law_row_of -/
def spRow : Sp := fun vs H Q _ => ∃ (a : Addr) (ns : List Int) (lo hi : Int), vs = [.ref a, .int lo, .int hi] ∧ H a = some (.tup (ns.map V.int)) ∧ ns.Pairwise (· < ·) ∧ (∀ n ∈ ns, lo ≤ n ∧ n ≤ hi) ∧ Q (.bl true) H
abbrev s_row : Stmt := top 58
abbrev N_row : List Str := ["_law_thing", "_law_low", "_law_high", "_law_last", "_law_number"]
theorem sc_row : FnScope N_row ["_law_thing", "_law_low", "_law_high"] (defScope s_row) := ⟨rfl, rfl, rfl, by decide +kernel, rfl, by decide +kernel, by decide +kernel⟩
theorem kp_row (F : At K mg "_law_row_of" s_row) (G : Keeps CX0 P w K mg base "_law_whole" 1 ["_law_thing"] spWhole) (N : Nb mg) : Keeps CX0 P w K mg base "_law_row_of" 2 ["_law_thing", "_law_low", "_law_high"] spRow := by
  refine keeps_of F sc_row (fun _ _ _ _ _ _ us hl => match us, hl with | [_, _, _], _ => rfl) (fun vs H Q E h => ?_) (fun f cdv A outer s H vs Q E hr h => ?_)
  · obtain ⟨a, ns, lo, hi, rfl, _⟩ := h
    rfl
  · obtain ⟨a, ns, lo, hi, rfl, ha, asc, hb, k⟩ := h
    refine ⟨_, (pss_cons (ps_if (pt_not (pt_val (pe_callB call_isi (by rfl) N.isinstance boot_isinstance (pa_cons (pv 0) (pa_cons (pe_bltn (v := .ty "tuple") (by rfl) N.tuple (by decide +kernel) rfl) pa_nil))))) (pss_one (ps_ret pe_bl)) pss_nil)
        (pss_cons (ps_set (i := 3) sc_row.nd rfl (by walk_at "lv") (pe_op op_sub (pv 1) pe_int))
        (pss_cons (ps_for PassesOwn.never rfl (pi_tup (pv 0)) (pg_name (i := 4) sc_row.nd rfl (by walk_at "lv")) (pss_cons (ps_if (PW.pt (pw_or (pt_not (pt_val (pe_k G hr (by rfl) pass0 (pa_cons (pv 4) pa_nil)))) (pw_or (pt_cmpR op_le (pv 4) (pv 3) (nomark _)) (pw_or1 (pt_cmpR op_gt (pv 4) (pv 2) (nomark _)))))) (pss_one (ps_ret pe_bl)) pss_nil) (pss_one (ps_set (i := 3) sc_row.nd rfl (by walk_at "lv") (pv 4)))))
        (pss_one (ps_ret pe_bl))))), ?_⟩
    refine ⟨_, rfl, .ref a, .ty "tuple", _, _, true, rfl, .ty "tuple", .base (.tup ha), kit_ty (by decide +kernel), _, rfl, iteF ?_⟩
    refine ⟨_, rfl, _, _, rfl, rfl, ?_⟩
    refine ⟨_, rfl, a, rfl, ⟨_, SqT.of ha⟩, for_it (walk_tup (K := K) (a := a) (xs := ns.map V.int)) (fun i σ H2 => ∃ (x : Option V) (last : Int), σ = [some (.ref a), some (.int lo), some (.int hi), some (.int last), x] ∧ H2 = H ∧ ∀ n ∈ ns.drop i, last < n) ⟨_, lo - 1, rfl, rfl, fun n hn => by have := (hb n (List.mem_of_mem_drop hn)).1; omega⟩ (fun i σ H2 _ ⟨_, _, _, e, _⟩ => by rw [e]; exact SqT.of ha) ?_ ?_⟩
    · rintro i v σ H2 H3 hi' ⟨x, last, rfl, rfl, inv⟩ ⟨rfl, e4⟩
      obtain ⟨n, hn, rfl⟩ := int_at e4
      obtain ⟨hi3, hi4⟩ := List.getElem?_eq_some_iff.mp hn
      have hd : ns.drop i = n :: ns.drop (i + 1) := by rw [List.drop_eq_getElem_cons hi3, hi4]
      have h1 := inv n (by rw [hd]; exact List.mem_cons_self)
      have h2 := hb n (List.mem_of_getElem? hn)
      refine ⟨_, rfl, n, rfl, _, rfl, iteF ⟨_, rfl, _, rfl, _, _, rfl, rfl, _, rfl, ?_⟩⟩
      rw [decide_eq_false (by omega : ¬ n ≤ last)]
      refine iteF ⟨_, rfl, _, rfl, _, _, rfl, rfl, _, rfl, ?_⟩
      rw [decide_eq_false (by omega : ¬ n > hi)]
      refine iteF ⟨_, rfl, _, n, rfl, rfl, fun m hm => ?_⟩
      have as2 := asc.sublist (List.drop_sublist i ns)
      rw [hd] at as2
      exact (List.pairwise_cons.mp as2).1 m hm
    · rintro σ H2 ⟨x, last, rfl, rfl, _⟩
      exact k
/-! ### _law_turned -/
theorem HandC.ne {H : Hp} {p c q : Addr} (h : HandC H p c) (hq : H q = none) : p ≠ q ∧ c ≠ q := by
  obtain ⟨_, _, _, _, h1, h2, _⟩ := h
  exact ⟨ne_of_none h1 hq, ne_of_none h2 hq⟩
theorem HandC.upd {H : Hp} {p c q : Addr} {o : HO} (h : HandC H p c) (h1 : p ≠ q) (h2 : c ≠ q) : HandC (upd H q o) p c := by
  obtain ⟨cs, i, r, t, e1, e2, e3⟩ := h
  exact ⟨cs, i, r, t, by rw [upd_ne h1]; exact e1, by rw [upd_ne h2]; exact e2, e3⟩
theorem HandC.same {H H' : Hp} {p c : Addr} (s : Same H H') (h : HandC H p c) : HandC H' p c := by
  obtain ⟨cs, i, r, t, e1, e2, e3⟩ := h
  exact ⟨cs, i, r, t, s _ _ e1, s _ _ e2, e3⟩
theorem But.of {p : Addr} {H H' : Hp} (s : Same H H') : But p H H' := fun b o _ e => s b o e
theorem But.trans {p : Addr} {H H1 H2 : Hp} (a : But p H H1) (b : But p H1 H2) : But p H H2 := fun c o hc e => b c o hc (a c o hc e)
/-! ### _law_has -/
def spHas : Sp := fun vs H Q _ => ∃ (t c u d : Addr) (T : Tl) (n : Int), vs = [.ref t, .int n] ∧ TellAt H t T c u d ∧ T.Ok ∧ Q (.bl (T.has n)) H
abbrev s_has : Stmt := top 60
abbrev N_has : List Str := ["_law_telling", "_law_number", "_law_low", "_law_high", "_law_core", "_law_modulus", "_law_ups", "_law_downs"]
theorem sc_has : FnScope N_has ["_law_telling", "_law_number"] (defScope s_has) := ⟨rfl, rfl, rfl, by decide +kernel, rfl, by decide +kernel, by decide +kernel⟩
theorem kp_has (F : At K mg "_law_has" s_has) (N : Nb mg) : Keeps CX0 P w K mg base "_law_has" 1 ["_law_telling", "_law_number"] spHas := by
  refine keeps_of F sc_has (fun _ _ _ _ _ _ us hl => match us, hl with | [_, _], _ => rfl) (fun vs H Q E h => ?_) (fun f cdv A outer s H vs Q E hr h => ?_)
  · obtain ⟨t, c, u, d, T, n, rfl, _⟩ := h
    rfl
  · obtain ⟨t, c, u, d, T, n, rfl, a, ok, k⟩ := h
    have hm := ok.pos
    have hm' : (0 : Int) < (T.us.length : Int) := by omega
    refine ⟨_, (pss_cons (ps_asg (pv 0) (pg_unl (by rfl) (pgs_cons (pg_name (i := 2) sc_has.nd rfl (by walk_at "lv")) (pgs_cons (pg_name (i := 3) sc_has.nd rfl (by walk_at "lv")) (pgs_cons (pg_name (i := 4) sc_has.nd rfl (by walk_at "lv")) (pgs_cons (pg_name (i := 5) sc_has.nd rfl (by walk_at "lv")) (pgs_cons (pg_name (i := 6) sc_has.nd rfl (by walk_at "lv")) (pgs_cons (pg_name (i := 7) sc_has.nd rfl (by walk_at "lv")) pgs_nil))))))))
        (pss_cons (ps_if (pt_cmpR op_lt (pv 1) (pv 2) (nomark _)) (pss_one (ps_ret (pe_ix ix_list (pv 7) (pe_op op_mod (pe_callTy call_int1 (by rfl) N.int boot_int (pa_cons (pv 1) pa_nil)) (pv 5)) (fun _ _ => rfl)))) pss_nil)
        (pss_cons (ps_if (pt_cmpR op_gt (pv 1) (pv 3) (nomark _)) (pss_one (ps_ret (pe_ix ix_list (pv 6) (pe_op op_mod (pe_callTy call_int1 (by rfl) N.int boot_int (pa_cons (pv 1) pa_nil)) (pv 5)) (fun _ _ => rfl)))) pss_nil)
        (pss_one (ps_ret (pe_ix ix_list (pv 4) (pe_op op_sub (pv 1) (pv 2)) (fun _ _ => rfl))))))), ?_⟩
    refine ⟨_, rfl, t, _, rfl, SqL.of a.t, rfl, _, _, rfl, _, _, rfl, _, _, rfl, _, _, rfl, _, _, rfl, _, _, rfl, rfl, ?_⟩
    refine ⟨_, rfl, _, rfl, _, _, rfl, rfl, _, rfl, ite2 (fun h1 => ?_) (fun h1 => ?_)⟩
    · have h1 : n < T.lo := of_decide_eq_true h1
      refine ⟨_, rfl, _, rfl, .inl ⟨_, rfl, _, rfl, _, _, rfl, rfl, hm', d, _, _, _, rfl, rfl, SqL.of a.l.ds, cyc_get (n := n) ok.len hm, ?_⟩⟩
      rw [show cyc T.ds n = T.has n from (Tl.below h1).symm]
      exact k
    · have h1 : ¬ n < T.lo := fun z => h1 (decide_eq_true z)
      refine ⟨_, rfl, _, rfl, _, _, rfl, rfl, _, rfl, ite2 (fun h2 => ?_) (fun h2 => ?_)⟩
      · have h2 : T.hi < n := of_decide_eq_true h2
        refine ⟨_, rfl, _, rfl, .inl ⟨_, rfl, _, rfl, _, _, rfl, rfl, hm', u, _, _, _, rfl, rfl, SqL.of a.l.us, cyc_get (n := n) rfl hm, ?_⟩⟩
        rw [show cyc T.us n = T.has n from (Tl.above h2).symm]
        exact k
      · have h2 : ¬ T.hi < n := fun z => h2 (decide_eq_true z)
        have hhi : T.hi = T.lo + T.cs.length - 1 := rfl
        refine ⟨_, rfl, _, rfl, _, rfl, _, _, rfl, rfl, c, _, _, _, rfl, rfl, SqL.of a.l.cs, blI_get (i := n - T.lo) (by omega) (by omega), ?_⟩
        rw [← Tl.core (by omega) (by omega)]
        exact k
/-- [k for k in range(n) if xs[k]] -/
theorem lc_res {σ : L2.St} {H : Hp} {Q : VK} {i j l m : Nat} {a : Addr} {bs : List Bool} (hj : σ[j]? = some (some (.int (m : Int)))) (hm : m ≤ bs.length) (hm2 : m ≤ 1000) (ha : H a = some (.lst (bs.map V.bl))) (hl : ∀ v, ((wipe σ [i]).set i (some v))[l]? = some (some (.ref a)))
    (hi : ∀ v, ((wipe σ [i]).set i (some v))[i]? = some (some v)) (hw : ∀ v, wipe ((wipe σ [i]).set i (some v)) [i] = wipe σ [i])
    (k : ∀ D H', Same H H' → H D = none → H' D = some (.lst ((fil (fun k => bs.getD k.toNat false) 0 m).map V.int)) → Q (.ref D) H') :
    tLc (iRng1 (tCons (tVar j) tNil)) (gName i) (tB (tOp (rIxL K) (tVar l) (tVar i))) (tVar i) [i] σ H Q := by
  refine ⟨_, hj, _, rfl, by omega, by omega, fun D hD => ?_⟩
  rw [show ((m : Int)).toNat = m by omega]
  refine lc_itF (G := fun _ => True) walk_range hD (fun x => (fil (fun k => bs.getD k.toNat false) 0 x).map V.int) rfl (fun x hx => small1000 (by rw [List.length_map]; exact Nat.le_trans (fil_len _ _ _) (by omega))) (fun _ _ => trivial) ?_ ?_ ?_ ?_ (fun H' e s => k D H' s hD e)
  · rintro x v H2 H3 hx e s ⟨rfl, rfl⟩
    refine ⟨hw _, _, hl _, _, hi _, a, _, _, _, rfl, rfl, SqL.of (s _ _ ha), blI_get (i := 0 + (x : Int)) (by omega) (by omega), _, rfl, ?_⟩
    cases hb : bs.getD (0 + (x : Int)).toNat false with
    | false =>
      refine iteF ⟨e, s, ?_⟩
      rw [fil_neg (by rw [hb]; exact Bool.false_ne_true)]
    | true =>
      refine iteT ⟨_, hi _, e, s, ?_⟩
      rw [fil_pos hb, List.map_append]
      rfl
  · exact fun x H' Q Q' h q => h _ _ q
  · rintro σ2 H2 Q1 Q2 h ⟨x1, h1, x2, h2, p, xs, ii, v, f3, f4, sq, at_, k, ek, q⟩
    exact ⟨x1, h1, x2, h2, p, xs, ii, v, f3, f4, sq, at_, k, ek, h _ _ q⟩
  · rintro σ2 H2 Q1 Q2 h ⟨v, hv, q⟩
    exact ⟨v, hv, h _ _ q⟩
/-! ### _law_parts -/
/-- the three lists of numbers -/
def cIns (T : Tl) : List Int := (res T.cs).map fun k => T.lo + k
structure PartsAt (H : Hp) (q : Addr) (T : Tl) (a b c : Addr) : Prop where
  q : H q = some (.tup [.int T.lo, .int T.hi, .ref a, .int T.us.length, .ref b, .ref c])
  a : H a = some (.lst ((cIns T).map V.int))
  b : H b = some (.lst ((res T.us).map V.int))
  c : H c = some (.lst ((res T.ds).map V.int))
def spParts : Sp := fun vs H Q _ => ∃ (t c u d : Addr) (T : Tl), vs = [.ref t] ∧ TellAt H t T c u d ∧ T.Ok ∧ T.us.length ≤ 1000 ∧ T.cs.length ≤ 1000 ∧ ∀ q a1 a2 a3 H', Same H H' → PartsAt H' q T a1 a2 a3 → H a1 = none → H a2 = none → H a3 = none → Q (.ref q) H'
abbrev s_parts : Stmt := top 61
abbrev N_parts : List Str := ["_law_telling", "_law_low", "_law_high", "_law_core", "_law_modulus", "_law_ups", "_law_downs", "_law_k"]
theorem sc_parts : FnScope N_parts ["_law_telling"] (defScope s_parts) := ⟨rfl, rfl, rfl, by decide +kernel, rfl, by decide +kernel, by decide +kernel⟩
theorem kp_parts (F : At K mg "_law_parts" s_parts) (N : Nb mg) : Keeps CX0 P w K mg base "_law_parts" 1 ["_law_telling"] spParts := by
  refine keeps_of F sc_parts (fun _ _ _ _ _ _ us hl => match us, hl with | [_], _ => rfl) (fun vs H Q E h => ?_) (fun f cdv A outer s H vs Q E hr h => ?_)
  · obtain ⟨t, c, u, d, T, rfl, _⟩ := h
    rfl
  · obtain ⟨t, c, u, d, T, rfl, a, ok, hl1, hl2, k⟩ := h
    have hm := ok.pos
    refine ⟨_, (pss_cons (ps_asg (pv 0) (pg_unl (by rfl) (pgs_cons (pg_name (i := 1) sc_parts.nd rfl (by walk_at "lv")) (pgs_cons (pg_name (i := 2) sc_parts.nd rfl (by walk_at "lv")) (pgs_cons (pg_name (i := 3) sc_parts.nd rfl (by walk_at "lv")) (pgs_cons (pg_name (i := 4) sc_parts.nd rfl (by walk_at "lv")) (pgs_cons (pg_name (i := 5) sc_parts.nd rfl (by walk_at "lv")) (pgs_cons (pg_name (i := 6) sc_parts.nd rfl (by walk_at "lv")) pgs_nil))))))))
        (pss_one (ps_ret (pe_tup (pa_cons (pv 1) (pa_cons (pv 2) (pa_cons (pe_lc (own := [("_law_k", 7)]) (g := gName 7) rfl sc_parts.nd (pi_range1 (by rfl) N.range (pa_cons (pe_callB call_len_seq (by rfl) N.len (by decide +kernel) (pa_cons (pv 3) pa_nil)) pa_nil)) (blkOk_by (N := N_parts) (sc := defScope s_parts) (by decide +kernel)) (fun _ _ _ _ _ => (pg_name (i := 7) sc_parts.nd rfl (by walk_at "lv"))) (fun _ _ _ _ _ => (pts_one (pt_val (pe_ix ix_list (r := rIxL K) (pv 3) (pv 7) (fun _ _ => rfl))))) (fun _ _ _ _ _ => (pe_op op_add (pv 1) (pv 7)))) (pa_cons (pv 4) (pa_cons (pe_lc (own := [("_law_k", 7)]) (g := gName 7) rfl sc_parts.nd (pi_range1 (by rfl) N.range (pa_cons (pv 4) pa_nil)) (blkOk_by (N := N_parts) (sc := defScope s_parts) (by decide +kernel)) (fun _ _ _ _ _ => (pg_name (i := 7) sc_parts.nd rfl (by walk_at "lv"))) (fun _ _ _ _ _ => (pts_one (pt_val (pe_ix ix_list (r := rIxL K) (pv 5) (pv 7) (fun _ _ => rfl))))) (fun _ _ _ _ _ => (pv 7))) (pa_cons (pe_lc (own := [("_law_k", 7)]) (g := gName 7) rfl sc_parts.nd (pi_range1 (by rfl) N.range (pa_cons (pv 4) pa_nil)) (blkOk_by (N := N_parts) (sc := defScope s_parts) (by decide +kernel)) (fun _ _ _ _ _ => (pg_name (i := 7) sc_parts.nd rfl (by walk_at "lv"))) (fun _ _ _ _ _ => (pts_one (pt_val (pe_ix ix_list (r := rIxL K) (pv 6) (pv 7) (fun _ _ => rfl))))) (fun _ _ _ _ _ => (pv 7))) pa_nil)))))))))), ?_⟩
    refine ⟨_, rfl, t, _, rfl, SqL.of a.t, rfl, _, _, rfl, _, _, rfl, _, _, rfl, _, _, rfl, _, _, rfl, _, _, rfl, rfl, ?_⟩
    refine ⟨_, rfl, _, rfl, _, rfl, c, _, rfl, .inl (SqL.of a.l.cs), _, rfl, by rw [List.length_map]; omega, by rw [List.length_map]; omega, fun D hD => ?_⟩
    rw [List.length_map, show ((T.cs.length : Int)).toNat = T.cs.length by omega]
    refine lc_itF (G := fun _ => True) walk_range hD (fun x => ((fil (fun k => T.cs.getD k.toNat false) 0 x).map fun k => T.lo + k).map V.int) rfl (fun x hx => small1000 (by rw [List.length_map, List.length_map]; exact Nat.le_trans (fil_len _ _ _) (by omega))) (fun _ _ => trivial) ?_ ?_ ?_ ?_ ?_
    · rintro x v H2 H3 hx e s ⟨rfl, rfl⟩
      refine ⟨rfl, _, rfl, _, rfl, c, _, _, _, rfl, rfl, SqL.of (s _ _ a.l.cs), blI_get (i := 0 + (x : Int)) (by omega) (by omega), _, rfl, ?_⟩
      cases hb : T.cs.getD (0 + (x : Int)).toNat false with
      | false =>
        refine iteF ⟨e, s, ?_⟩
        rw [fil_neg (by rw [hb]; exact Bool.false_ne_true)]
      | true =>
        refine iteT ⟨_, rfl, _, rfl, _, _, rfl, rfl, e, s, ?_⟩
        rw [fil_pos hb, List.map_append, List.map_append]
        rfl
    · exact fun x H' Q Q' h q => h _ _ q
    · rintro σ2 H2 Q1 Q2 h ⟨x1, h1, x2, h2, p, xs, ii, v, f3, f4, sq, at_, k, ek, q⟩
      exact ⟨x1, h1, x2, h2, p, xs, ii, v, f3, f4, sq, at_, k, ek, h _ _ q⟩
    · rintro σ2 H2 Q1 Q2 h ⟨v, hv, w, hw, i, j, e1, e2, q⟩
      exact ⟨v, hv, w, hw, i, j, e1, e2, h _ _ q⟩
    · intro H1 e1 s1
      refine ⟨_, rfl, lc_res (bs := T.us) (a := u) rfl (Nat.le_refl _) hl1 (s1 _ _ a.l.us) (fun _ => rfl) (fun _ => rfl) (fun _ => rfl) fun D2 H2 s2 n2 e2 => ?_⟩
      refine lc_res (bs := T.ds) (a := d) rfl (by rw [ok.len]; exact Nat.le_refl _) hl1 (s2 _ _ (s1 _ _ a.l.ds)) (fun _ => rfl) (fun _ => rfl) (fun _ => rfl) fun D3 H3 s3 n3 e3 => ?_
      refine ⟨(by show 6 ≤ sizeLine; decide), fun q hq => ?_⟩
      have s4 := same_new (o := .tup [V.int T.lo, V.int T.hi, V.ref D, V.int T.us.length, V.ref D2, V.ref D3]) s3 hq
      refine k q D D2 D3 _ (s1.trans (s2.trans s4)) ⟨upd_same, s4 _ _ (s2 _ _ e1), s4 _ _ e2, ?_⟩ hD (s1.free n2) ((s1.trans s2).free n3)
      have e3' := (same_new (o := .tup [V.int T.lo, V.int T.hi, V.ref D, V.int T.us.length, V.ref D2, V.ref D3]) (Same.refl H3) hq) _ _ e3
      rw [e3', show res T.ds = fil (fun k => T.ds.getD k.toNat false) 0 T.us.length by unfold res; rw [ok.len]]
end
end My
set_option Elab.async false
set_option linter.all false
set_option maxRecDepth 100000
set_option maxHeartbeats 8000000
namespace My
open PySem PySem.Spec PyProof.Rows L2
local macro_rules | `(tactic| walk_at "lv") => `(tactic| first | exact Or.inl rfl | exact Or.inr rfl)
/-- a form's six things as a tuple -/
def FormAt (H : Hp) (q : Addr) (lo hi : Int) (ins : List Int) (m : Nat) (us ds : List Int) : Prop :=
  ∃ a b c, H q = some (.tup [.int lo, .int hi, .ref a, .int m, .ref b, .ref c]) ∧ H a = some (.tup (ins.map V.int)) ∧ H b = some (.tup (us.map V.int)) ∧ H c = some (.tup (ds.map V.int))
theorem FormAt.same {H H' : Hp} {q : Addr} {lo hi : Int} {ins us ds : List Int} {m : Nat} (s : Same H H') (h : FormAt H q lo hi ins m us ds) : FormAt H' q lo hi ins m us ds := by
  obtain ⟨a, b, c, h1, h2, h3, h4⟩ := h
  exact ⟨a, b, c, s _ _ h1, s _ _ h2, s _ _ h3, s _ _ h4⟩
def formD (lo hi : Int) (ins : List Int) (m : Nat) (us ds : List Int) : PyData := .tuple [.int lo, .int hi, .tuple (ins.map PyData.int), .int m, .tuple (us.map PyData.int), .tuple (ds.map PyData.int)]
theorem FormAt.dp {K : PySem.W.Frag} {H : Hp} {q : Addr} {lo hi : Int} {ins us ds : List Int} {m : Nat} (h : FormAt H q lo hi ins m us ds) : Dp K H (.ref q) (formD lo hi ins m us ds) := by
  obtain ⟨a, b, c, h1, h2, h3, h4⟩ := h
  exact .tup (SqT.of h1) (.cons (.int _) (.cons (.int _) (.cons (.tup (SqT.of h2) (dp_ints _)) (.cons (.int _) (.cons (.tup (SqT.of h3) (dp_ints _)) (.cons (.tup (SqT.of h4) (dp_ints _)) .nil))))))
theorem formD_lay (lo hi : Int) (ins : List Int) (m : Nat) (us ds : List Int) : (formD lo hi ins m us ds).canLay0 = true ∧ SeqAt.shaped (formD lo hi ins m us ds) = true := by
  have h1 : PyData.canLayAll0 [.int lo, .int hi, .tuple (ins.map PyData.int), .int m, .tuple (us.map PyData.int), .tuple (ds.map PyData.int)] = true := by
    show (true && (true && (PyData.canLayAll0 (ins.map PyData.int) && (true && (PyData.canLayAll0 (us.map PyData.int) && (PyData.canLayAll0 (ds.map PyData.int) && true)))))) = true
    rw [(lay_ints ins).1, (lay_ints us).1, (lay_ints ds).1]
    rfl
  have h2 : PyData.depthAll [.int lo, .int hi, .tuple (ins.map PyData.int), .int m, .tuple (us.map PyData.int), .tuple (ds.map PyData.int)] = 1 := by
    show max 0 (max 0 (max (PyData.depthAll (ins.map PyData.int) + 1) (max 0 (max (PyData.depthAll (us.map PyData.int) + 1) (max (PyData.depthAll (ds.map PyData.int) + 1) 0))))) = 1
    rw [(lay_ints ins).2, (lay_ints us).2, (lay_ints ds).2]
    rfl
  exact ⟨h1, shp_tup h1 h2 (by decide)⟩
section
variable {P : Program} {w : World} {K : PySem.W.Frag} {mg : Str → Option Value} {base : Heap}
/-! ### _law_seen -/
def spSeen (C : Addr) : Sp := fun vs H Q _ => ∃ (p : Addr) (lo hi : Int) (m : Nat) (ins us ds : List Int), vs = [.ref p] ∧ LotAt C H p lo hi ins m us ds ∧ ∀ q H', Same H H' → FormAt H' q lo hi ins m us ds → Q (.ref q) H'
abbrev s_seen : Stmt := top 63
abbrev N_seen : List Str := ["_law_lot"]
theorem sc_seen : FnScope N_seen ["_law_lot"] (defScope s_seen) := ⟨rfl, rfl, rfl, by decide +kernel, rfl, by decide +kernel, by decide +kernel⟩
theorem kp_seen {C : Addr} (F : At K mg "_law_seen" s_seen) (T : LotTxt K mg C) : Keeps CX0 P w K mg base "_law_seen" 1 ["_law_lot"] (spSeen C) := by
  refine keeps_of F sc_seen (fun _ _ _ _ _ _ us hl => match us, hl with | [_], _ => rfl) (fun vs H Q E h => ?_) (fun f cdv A outer s H vs Q E hr h => ?_)
  · obtain ⟨p, lo, hi, m, ins, us, ds, rfl, _⟩ := h
    rfl
  · obtain ⟨p, lo, hi, m, ins, us, ds, rfl, ⟨dx, a, b, c, hp, ha, hb, hc⟩, k⟩ := h
    refine ⟨_, (pss_one (ps_ret (pe_tup (pa_cons (pe_fld (pv 0) rfl) (pa_cons (pe_fld (pv 0) rfl) (pa_cons (pe_fld (pv 0) rfl) (pa_cons (pe_fld (pv 0) rfl) (pa_cons (pe_fld (pv 0) rfl) (pa_cons (pe_fld (pv 0) rfl) pa_nil))))))))), ?_⟩
    refine ⟨_, rfl, p, C, dx, _, _, rfl, hp, T.cl, T.n1, lf_low, _, rfl, p, C, dx, _, _, rfl, hp, T.cl, T.n2, lf_high, _, rfl, p, C, dx, _, _, rfl, hp, T.cl, T.n3, lf_inside, _, rfl, p, C, dx, _, _, rfl, hp, T.cl, T.n4, lf_modulus, _, rfl, p, C, dx, _, _, rfl, hp, T.cl, T.n5, lf_ups, _, rfl, p, C, dx, _, _, rfl, hp, T.cl, T.n6, lf_downs, ?_⟩
    refine ⟨(by show 6 ≤ sizeLine; decide), fun q hq => ?_⟩
    have s1 := same_new (o := .tup [V.int lo, V.int hi, V.ref a, V.int m, V.ref b, V.ref c]) (Same.refl H) hq
    exact k q _ s1 ⟨a, b, c, upd_same, s1 _ _ ha, s1 _ _ hb, s1 _ _ hc⟩
/-! ### _law_is_form -/
structure RowsOk (lo hi : Int) (ins : List Int) (m : Nat) (us ds : List Int) : Prop where
  i : ins.Pairwise (· < ·)
  ib : ∀ n ∈ ins, lo ≤ n ∧ n ≤ hi
  u : us.Pairwise (· < ·)
  ub : ∀ n ∈ us, 0 ≤ n ∧ n ≤ (m : Int) - 1
  d : ds.Pairwise (· < ·)
  db : ∀ n ∈ ds, 0 ≤ n ∧ n ≤ (m : Int) - 1
def spIsF (C : Addr) : Sp := fun vs H Q _ => ∃ (p q : Addr) (lo hi : Int) (m : Nat) (ins us ds : List Int), vs = [.ref p, .ref q] ∧ LotAt C H p lo hi ins m us ds ∧ FormAt H q lo hi ins m us ds ∧ RowsOk lo hi ins m us ds ∧ ∀ H', Same H H' → Q (.bl true) H'
abbrev s_isf : Stmt := top 64
abbrev N_isf : List Str := ["_law_lot", "_law_form_here"]
theorem sc_isf : FnScope N_isf ["_law_lot", "_law_form_here"] (defScope s_isf) := ⟨rfl, rfl, rfl, by decide +kernel, rfl, by decide +kernel, by decide +kernel⟩
theorem kp_isf {C : Addr} (F : At K mg "_law_is_form" s_isf) (T : LotTxt K mg C) (N : Nb mg) (Gw : Keeps CX0 P w K mg base "_law_whole" 1 ["_law_thing"] spWhole) (Gr : Keeps CX0 P w K mg base "_law_row_of" 2 ["_law_thing", "_law_low", "_law_high"] spRow) (Gs : Keeps CX0 P w K mg base "_law_seen" 1 ["_law_lot"] (spSeen C)) :
    Keeps CX0 P w K mg base "_law_is_form" 3 ["_law_lot", "_law_form_here"] (spIsF C) := by
  refine keeps_of F sc_isf (fun _ _ _ _ _ _ us hl => match us, hl with | [_, _], _ => rfl) (fun vs H Q E h => ?_) (fun f cdv A outer s H vs Q E hr h => ?_)
  · obtain ⟨p, q, lo, hi, m, ins, us, ds, rfl, _⟩ := h
    rfl
  · obtain ⟨p, q, lo, hi, m, ins, us, ds, rfl, la, fa, ok, k⟩ := h
    obtain ⟨dx, a, b, c, hp, ha, hb, hc⟩ := id la
    have h1 : Room 1 (A.deeper (envOfC "_law_is_form" (defScope s_isf) s.heap.objs.size f cdv)) := hr.mono (by decide)
    refine ⟨_, (pss_cons (ps_if (PW.pt (pw_or (pt_not (pt_val (pe_callB call_isi (by rfl) N.isinstance boot_isinstance (pa_cons (pv 0) (pa_cons (pe_glob (v := .ref C) (by rfl) T.mgC rfl) pa_nil))))) (pw_or (pt_not (pt_val (pe_k Gw h1 (by rfl) pass0 (pa_cons (pe_fld (pv 0) rfl) pa_nil)))) (pw_or (pt_not (pt_val (pe_k Gw h1 (by rfl) pass0 (pa_cons (pe_fld (pv 0) rfl) pa_nil)))) (pw_or1 (pt_not (pt_val (pe_k Gw h1 (by rfl) pass0 (pa_cons (pe_fld (pv 0) rfl) pa_nil))))))))) (pss_one (ps_ret pe_bl)) pss_nil)
        (pss_cons (ps_if (PW.pt (pw_or (pt_not (pt_val (pe_k Gr hr (by rfl) pass0 (pa_cons (pe_fld (pv 0) rfl) (pa_cons (pe_fld (pv 0) rfl) (pa_cons (pe_fld (pv 0) rfl) pa_nil)))))) (pw_or (pt_not (pt_val (pe_k Gr hr (by rfl) pass0 (pa_cons (pe_fld (pv 0) rfl) (pa_cons pe_int (pa_cons (pe_op op_sub (pe_fld (pv 0) rfl) pe_int) pa_nil)))))) (pw_or1 (pt_not (pt_val (pe_k Gr hr (by rfl) pass0 (pa_cons (pe_fld (pv 0) rfl) (pa_cons pe_int (pa_cons (pe_op op_sub (pe_fld (pv 0) rfl) pe_int) pa_nil)))))))))) (pss_one (ps_ret pe_bl)) pss_nil)
        (pss_one (ps_ret (pe_cmpR (op_eqD hr.units) (pe_k Gs h1 (by rfl) pass0 (pa_cons (pv 0) pa_nil)) (pv 1) (nomark _)))))), ?_⟩
    refine ⟨_, rfl, .ref p, .ref C, _, _, true, rfl, .own C, .base (.ins hp T.cl T.ha T.hn T.ht T.hm), T.isLot, _, rfl, iteF ?_⟩
    refine ⟨_, rfl, p, C, dx, _, _, rfl, hp, T.cl, T.n1, lf_low, _, rfl, _, rfl, iteF ?_⟩
    refine ⟨_, rfl, p, C, dx, _, _, rfl, hp, T.cl, T.n2, lf_high, _, rfl, _, rfl, iteF ?_⟩
    refine ⟨_, rfl, p, C, dx, _, _, rfl, hp, T.cl, T.n4, lf_modulus, _, rfl, _, rfl, iteF ?_⟩
    refine ⟨_, rfl, p, C, dx, _, _, rfl, hp, T.cl, T.n3, lf_inside, _, rfl, p, C, dx, _, _, rfl, hp, T.cl, T.n1, lf_low, _, rfl, p, C, dx, _, _, rfl, hp, T.cl, T.n2, lf_high, a, ins, lo, hi, rfl, ha, ok.i, ok.ib, _, rfl, iteF ?_⟩
    refine ⟨_, rfl, p, C, dx, _, _, rfl, hp, T.cl, T.n5, lf_ups, _, rfl, p, C, dx, _, _, rfl, hp, T.cl, T.n4, lf_modulus, _, _, rfl, rfl, b, us, 0, _, rfl, hb, ok.u, ok.ub, _, rfl, iteF ?_⟩
    refine ⟨_, rfl, p, C, dx, _, _, rfl, hp, T.cl, T.n6, lf_downs, _, rfl, p, C, dx, _, _, rfl, hp, T.cl, T.n4, lf_modulus, _, _, rfl, rfl, c, ds, 0, _, rfl, hc, ok.d, ok.db, _, rfl, iteF ?_⟩
    refine ⟨_, rfl, p, lo, hi, m, ins, us, ds, rfl, la, fun q2 H2 s2 f2 => ?_⟩
    obtain ⟨y1, y2⟩ := formD_lay lo hi ins m us ds
    refine ⟨_, rfl, _, _, f2.dp, (fa.same s2).dp, y2, y2, ?_⟩
    show Q (.bl (PyData.eqv _ _)) _
    rw [PySem.SeqAt.eqv_refl _ y1]
    exact k _ s2
/-! ### make_lot -/
def spMake (K : PySem.W.Frag) : Sp := fun vs H Q E => ∃ (T : Tl) (a b c : Addr) (ins us ds : List Int), vs = [.int T.lo, .int T.hi, .ref a, .int T.us.length, .ref b, .ref c] ∧ T.Near ∧ T.cs.length < 1000 ∧ -20000 ≤ T.lo ∧ T.hi ≤ 20000 ∧ Told T ins us ds ∧ (ins.Nodup ∧ us.Nodup ∧ ds.Nodup) ∧ (ins.length ≤ 1000 ∧ us.length ≤ 1000 ∧ ds.length ≤ 1000) ∧
  SqA H a (ins.map V.int) ∧ SqA H b (us.map V.int) ∧ SqA H c (ds.map V.int) ∧ LotEnd K T H Q E
abbrev s_make : Stmt := top 20
abbrev N_make : List Str := ["low", "high", "inside", "modulus", "ups", "downs"]
theorem sc_make : FnScope N_make ["low", "high", "inside", "modulus", "ups", "downs"] (defScope s_make) := ⟨rfl, rfl, rfl, by decide +kernel, rfl, by decide +kernel, by decide +kernel⟩
theorem kp_make (F : At K mg "make_lot" s_make) (mM : ∃ t, mg "MOST_MODULUS" = some (.int 10080 t)) (Gc : Keeps CX0 P w K mg base "_check_core" 2 ["low", "high"] spCore) (Gu : Keeps CX0 P w K mg base "_are_unlike_from" 3 ["numbers", "low", "high"] spUnl)
    (Gw : Keeps CX0 P w K mg base "is_whole_from" 2 ["thing", "low", "high"] spWholeF) (Gl_ : Keeps (CX P w) P w K mg base "_lot_of" 3 ["low", "high", "inside", "modulus", "ups", "downs"] (spLotOf K)) :
    Keeps (CX P w) P w K mg base "make_lot" 4 ["low", "high", "inside", "modulus", "ups", "downs"] (spMake K) := by
  refine keeps_ofX F sc_make (fun _ _ _ _ _ _ us hl => match us, hl with | [_, _, _, _, _, _], _ => rfl) (fun vs H Q E h => ?_) (fun f cdv A outer s H vs Q E hr h => ?_)
  · obtain ⟨T, a, b, c, ins, us, ds, rfl, _⟩ := h
    rfl
  · obtain ⟨T, a, b, c, ins, us, ds, rfl, near, hc9, b1, b2, told, nd, ln, ha, hb, hc, k⟩ := h
    obtain ⟨tM, mM⟩ := mM
    have hm := near.ok.pos
    have hm1 := near.m
    have hhi : T.hi = T.lo + T.cs.length - 1 := rfl
    refine ⟨_, (pss_cons (ps_expr (pe_k Gc (hr.mono (by decide)) (by rfl) pass0 (pa_cons (pv 0) (pa_cons (pv 1) pa_nil))))
        (pss_cons (ps_if (pt_not (pt_val (pe_k Gu hr (by rfl) pass0 (pa_cons (pv 2) (pa_cons (pv 0) (pa_cons (pv 1) pa_nil)))))) (pss_one ps_never) pss_nil)
        (pss_cons (ps_if (pt_not (pt_val (pe_k Gw (hr.mono (by decide)) (by rfl) pass0 (pa_cons (pv 3) (pa_cons pe_int (pa_cons (pe_glob (v := .int 10080) (by rfl) mM ⟨_, rfl⟩) pa_nil)))))) (pss_one ps_never) pss_nil)
        (pss_cons (ps_if (pt_not (pt_val (pe_k Gu hr (by rfl) pass0 (pa_cons (pv 4) (pa_cons pe_int (pa_cons (pe_op op_sub (pv 3) pe_int) pa_nil)))))) (pss_one ps_never) pss_nil)
        (pss_cons (ps_if (pt_not (pt_val (pe_k Gu hr (by rfl) pass0 (pa_cons (pv 5) (pa_cons pe_int (pa_cons (pe_op op_sub (pv 3) pe_int) pa_nil)))))) (pss_one ps_never) pss_nil)
        (pss_one (ps_ret (pe_k Gl_ hr (by rfl) (passes_call (takes_of rfl rfl rfl rfl) (fun _ _ _ _ h => h)) (pa_cons (pv 0) (pa_cons (pv 1) (pa_cons (pv 2) (pa_cons (pv 3) (pa_cons (pv 4) (pa_cons (pv 5) pa_nil)))))))))))))), ?_⟩
    refine ⟨_, rfl, _, rfl, T.lo, T.hi, rfl, b1, b2, by omega, ?_⟩
    refine ⟨_, rfl, _, rfl, _, rfl, a, ins, T.lo, T.hi, rfl, ha, nd.1, ln.1, told.i, fun H1 s1 => ⟨_, rfl, iteF ?_⟩⟩
    refine ⟨_, rfl, (T.us.length : Int), 1, 10080, rfl, ?_⟩
    rw [decide_eq_true (by omega : (1 : Int) ≤ (T.us.length : Int)), decide_eq_true (by omega : (T.us.length : Int) ≤ 10080)]
    refine ⟨_, rfl, iteF ?_⟩
    refine ⟨_, rfl, _, rfl, _, _, rfl, rfl, b, us, 0, _, rfl, hb.same s1, nd.2.1, ln.2.1, told.u, fun H2 s2 => ⟨_, rfl, iteF ?_⟩⟩
    refine ⟨_, rfl, _, rfl, _, _, rfl, rfl, c, ds, 0, _, rfl, (hc.same s1).same s2, nd.2.2, ln.2.2, told.d, fun H3 s3 => ⟨_, rfl, iteF ?_⟩⟩
    have s13 := s1.trans (s2.trans s3)
    exact ⟨_, rfl, _, rfl, _, rfl, _, rfl, _, rfl, _, rfl, T, a, b, c, ins, us, ds, rfl, near, hc9, told, ha.same s13, hb.same s13, hc.same s13, k.same s13⟩
end
end My
set_option Elab.async false
set_option linter.all false
set_option maxRecDepth 100000
set_option maxHeartbeats 8000000
namespace My
open PySem PySem.Spec PyProof.Rows L2
local macro_rules | `(tactic| walk_at "lv") => `(tactic| first | exact Or.inl rfl | exact Or.inr rfl)
theorem res_of {l : List Bool} {d : Nat} (hd : d ≤ l.length) : fil (fun k => l.getD k.toNat false) 0 d = resOf (cyc l) d := by
  unfold resOf
  refine fil_cong fun x h1 h2 => ?_
  have e : x = ((x.toNat : Nat) : Int) := by omega
  have q := cyc_lt (l := l) (k := x.toNat) (by omega)
  rw [← e] at q
  rw [q]
theorem irow_at {a z : Int} {n i : Nat} (h : (irow a n)[i]? = some z) : z = a + (i : Nat) ∧ i < n := by
  unfold irow at h
  rw [List.getElem?_map] at h
  rcases Nat.lt_or_ge i n with q | q
  · rw [List.getElem?_range q] at h
    exact ⟨(Option.some.inj h).symm, q⟩
  · rw [List.getElem?_eq_none (by rw [List.length_range]; exact q)] at h
    cases h
section
variable {P : Program} {w : World} {K : PySem.W.Frag} {mg : Str → Option Value} {base : Heap}
/-! ### _law_form -/
def FormEnd (T : Tl) (H : Hp) (Q : VK) : Prop :=
  (∀ q lo hi d H', IsForm T.has T.U T.D lo hi d → -20000 ≤ lo → hi ≤ 20000 → Same H H' → FormAt H' q lo hi (insOf T lo hi) d (resOf T.U d) (resOf T.D d) → Q (.ref q) H') ∧
  (∀ lo hi d H', IsForm T.has T.U T.D lo hi d → (lo < -20000 ∨ 20000 < hi) → Same H H' → Q .non H')
def spForm : Sp := fun vs H Q _ => ∃ (t c u d : Addr) (T : Tl), vs = [.ref t] ∧ TellAt H t T c u d ∧ T.Near ∧ T.us.length ≤ 100 ∧ T.cs.length ≤ 100 ∧ FormEnd T H Q
abbrev s_form : Stmt := top 62
/-- the names of the comprehension over d -/
def scD : Scope := { kind := ScopeKind.function, names := [(PySem.Str.ofString ".0", NameKind.local), (PySem.Str.ofString "_law_d", NameKind.cell), (PySem.Str.ofString "int", NameKind.globalImplicit), (PySem.Str.ofString "all", NameKind.globalImplicit), (PySem.Str.ofString "range", NameKind.globalImplicit), (PySem.Str.ofString "_law_downs", NameKind.cell), (PySem.Str.ofString "_law_modulus", NameKind.cell), (PySem.Str.ofString "_law_ups", NameKind.cell)], isGenerator := false, isCoroutine := false }
abbrev N_form : List Str := ["_law_telling", "_law_low", "_law_high", "_law_core", "_law_modulus", "_law_ups", "_law_downs", "_law_size", "_law_window", "_law_tops", "_law_bottoms", "_law_new_low", "_law_new_high", "_law_inside", "_law_d", "_law_k", "_law_n"]
theorem sc_form : FnScope N_form ["_law_telling"] (defScope s_form) := ⟨rfl, rfl, rfl, by decide +kernel, rfl, by decide +kernel, by decide +kernel⟩
theorem kp_form (F : At K mg "_law_form" s_form) (N : Nb mg) (Gh : Keeps CX0 P w K mg base "_law_has" 1 ["_law_telling", "_law_number"] spHas) : Keeps CX0 P w K mg base "_law_form" 2 ["_law_telling"] spForm := by
  refine keeps_of F sc_form (fun _ _ _ _ _ _ us hl => match us, hl with | [_], _ => rfl) (fun vs H Q E h => ?_) (fun f cdv A outer s H vs Q E hr h => ?_)
  · obtain ⟨t, c, u, d, T, rfl, _⟩ := h
    rfl
  · obtain ⟨t, c, u, d, T, rfl, a, near, um, cm, kk⟩ := h
    have ok := near.ok
    have hm := ok.pos
    have hlo := near.lo
    have hhi : T.hi = T.lo + T.cs.length - 1 := rfl
    obtain ⟨tl, dtl, tail⟩ : ∃ tl, PSs (cxOf CX0 P w K mg base N_form "_law_form" (defScope s_form) f cdv A outer s H E).nox ((defBody s_form).drop 8) tl ∧ ∀ (H1 : Hp) (lo hi : Int) (sz : Nat) (x8 x9 x10 : Option V), IsForm T.has T.U T.D lo hi sz → sz ≤ T.us.length → -(3 * 10 ^ 31) ≤ lo → lo ≤ 3 * 10 ^ 31 → -(3 * 10 ^ 31) ≤ hi → hi ≤ 3 * 10 ^ 31 → hi + 1 - lo < 1000 → Same H H1 →
        tl { nx := fun _ H' => Q .non H', rt := Q } [some (V.ref t), some (V.int T.lo), some (V.int T.hi), some (V.ref c), some (V.int T.us.length), some (V.ref u), some (V.ref d), some (V.int sz), x8, x9, x10, some (V.int lo), some (V.int hi), none, none, none, none] H1 := by
      refine ⟨_, (pss_cons (ps_if (PW.pt (pw_or (pt_cmpR op_lt (pv 11) (pe_un un_neg pe_int) (nomark _)) (pw_or1 (pt_cmpR op_gt (pv 12) pe_int (nomark _))))) (pss_one (ps_ret pe_non)) pss_nil)
        (pss_cons (ps_set (i := 13) sc_form.nd rfl (by walk_at "lv") (pe_callTy call_tuple_of (by rfl) N.tuple (by decide +kernel) (pa_cons (pe_lc (own := [("_law_n", 16)]) (g := gName 16) rfl sc_form.nd (pi_range2 (by rfl) N.range (pa_cons (pv 11) (pa_cons (pe_op op_add (pv 12) pe_int) pa_nil))) (blkOk_by (N := N_form) (sc := defScope s_form) (by decide +kernel)) (fun _ _ _ _ _ => (pg_name (i := 16) sc_form.nd rfl (by walk_at "lv"))) (fun _ _ _ _ _ => (pts_one (pt_val (pe_k Gh hr (by rfl) pass0 (pa_cons (pv 0) (pa_cons (pv 16) pa_nil)))))) (fun _ _ _ _ _ => (pv 16))) pa_nil)))
        (pss_one (ps_ret (pe_tup (pa_cons (pv 11) (pa_cons (pv 12) (pa_cons (pv 13) (pa_cons (pv 7) (pa_cons (pe_callTy call_tuple_of (by rfl) N.tuple (by decide +kernel) (pa_cons (pe_lc (own := [("_law_k", 15)]) (g := gName 15) rfl sc_form.nd (pi_range1 (by rfl) N.range (pa_cons (pv 7) pa_nil)) (blkOk_by (N := N_form) (sc := defScope s_form) (by decide +kernel)) (fun _ _ _ _ _ => (pg_name (i := 15) sc_form.nd rfl (by walk_at "lv"))) (fun _ _ _ _ _ => (pts_one (pt_val (pe_ix (r := rIxL K) ix_list (pv 5) (pv 15) (fun _ _ => rfl))))) (fun _ _ _ _ _ => (pv 15))) pa_nil)) (pa_cons (pe_callTy call_tuple_of (by rfl) N.tuple (by decide +kernel) (pa_cons (pe_lc (own := [("_law_k", 15)]) (g := gName 15) rfl sc_form.nd (pi_range1 (by rfl) N.range (pa_cons (pv 7) pa_nil)) (blkOk_by (N := N_form) (sc := defScope s_form) (by decide +kernel)) (fun _ _ _ _ _ => (pg_name (i := 15) sc_form.nd rfl (by walk_at "lv"))) (fun _ _ _ _ _ => (pts_one (pt_val (pe_ix (r := rIxL K) ix_list (pv 6) (pv 15) (fun _ _ => rfl))))) (fun _ _ _ _ _ => (pv 15))) pa_nil)) pa_nil))))))))))), ?_⟩
      intro H1 lo hi sz x8 x9 x10 fm hsz b1 b2 b3 b4 b5 s1
      refine ⟨_, rfl, _, rfl, _, _, rfl, rfl, _, rfl, ite2 (fun h1 => kk.2 lo hi sz H1 fm (.inl (of_decide_eq_true h1)) s1) (fun h1 => ?_)⟩
      have h1 : ¬ lo < -20000 := fun z => h1 (decide_eq_true z)
      refine ⟨_, rfl, _, _, rfl, rfl, _, rfl, ite2 (fun h2 => kk.2 lo hi sz H1 fm (.inr (of_decide_eq_true h2)) s1) (fun h2 => ?_)⟩
      have h2 : ¬ 20000 < hi := fun z => h2 (decide_eq_true z)
      have hz := fm.size
      refine ⟨_, rfl, _, rfl, _, _, rfl, rfl, _, _, rfl, ⟨by omega, by omega, by omega, by omega⟩, fun D hD => ?_⟩
      refine lc_itF (G := fun _ => True) walk_range hD (fun i => (fil T.has lo i).map V.int) rfl (fun i hi' => small1000 (by rw [List.length_map]; exact Nat.le_trans (fil_len _ _ _) (by omega))) (fun _ _ => trivial) ?_ ?_ ?_ ?_ ?_
      · rintro i x H2 H3 hi' e s2 ⟨rfl, rfl⟩
        refine ⟨rfl, _, rfl, _, rfl, t, c, u, d, T, _, rfl, (a.same s1).same s2, ok, _, rfl, ?_⟩
        cases hb' : T.has (lo + (i : Int)) with
        | false =>
          refine iteF ⟨e, s2, ?_⟩
          rw [fil_neg (by rw [hb']; exact Bool.false_ne_true)]
        | true =>
          refine iteT ⟨_, rfl, e, s2, ?_⟩
          rw [fil_pos hb', List.map_append]
          rfl
      · exact fun x H' Q Q' h q => h _ _ q
      · rintro σ2 H2 Q1 Q2 h ⟨v, hv, w, hw, t2, c2, u2, d2, T2, n2, e1, e2, e3, k, ek, q⟩
        exact ⟨v, hv, w, hw, t2, c2, u2, d2, T2, n2, e1, e2, e3, k, ek, h _ _ q⟩
      · rintro σ2 H2 Q1 Q2 h ⟨v, hv, q⟩
        exact ⟨v, hv, h _ _ q⟩
      · intro H2 e2 s2
        refine ⟨D, _, rfl, .inl ⟨SqL.of e2, fun l hl => ?_⟩⟩
        have s3 := same_new (o := .tup ((fil T.has lo (hi + 1 - lo).toNat).map V.int)) s2 hl
        have s13 := s1.trans s3
        refine ⟨_, rfl, _, rfl, _, rfl, _, rfl, ?_⟩
        dsimp only [tCons, tCB]
        refine lc_res (bs := T.us) (a := u) rfl hsz (by omega) (s13 _ _ a.l.us) (fun _ => rfl) (fun _ => rfl) (fun _ => rfl) fun D2 H4 s4 n4 e4 => ?_
        refine ⟨D2, _, rfl, .inl ⟨SqL.of e4, fun l2 hl2 => ?_⟩⟩
        have s5 := same_new (o := .tup ((fil (fun k => T.us.getD k.toNat false) 0 sz).map V.int)) s4 hl2
        refine lc_res (bs := T.ds) (a := d) rfl (by rw [ok.len]; exact hsz) (by omega) (s5 _ _ (s13 _ _ a.l.ds)) (fun _ => rfl) (fun _ => rfl) (fun _ => rfl) fun D3 H6 s6 n6 e6 => ?_
        refine ⟨D3, _, rfl, .inl ⟨SqL.of e6, fun l3 hl3 => ?_⟩⟩
        have s7 := same_new (o := .tup ((fil (fun k => T.ds.getD k.toNat false) 0 sz).map V.int)) s6 hl3
        refine ⟨(by show 6 ≤ sizeLine; decide), fun q hq => ?_⟩
        have s8 := same_new (o := .tup [V.int lo, V.int hi, V.ref l, V.int sz, V.ref l2, V.ref l3]) (Same.refl _) hq
        refine kk.1 q lo hi sz _ fm (by omega) (by omega) ((s13.trans s5).trans (s7.trans s8)) ⟨l, l2, l3, upd_same, ?_, ?_, ?_⟩
        · refine s8 _ _ (s7 _ _ (s5 _ _ ?_))
          exact upd_same
        · refine s8 _ _ (s7 _ _ ?_)
          rw [res_of hsz]
          exact upd_same
        · refine s8 _ _ ?_
          rw [res_of (by rw [ok.len]; exact hsz)]
          exact upd_same
    refine ⟨_, (pss_cons (ps_asg (pv 0) (pg_unl (by rfl) (pgs_cons (pg_name (i := 1) sc_form.nd rfl (by walk_at "lv")) (pgs_cons (pg_name (i := 2) sc_form.nd rfl (by walk_at "lv")) (pgs_cons (pg_name (i := 3) sc_form.nd rfl (by walk_at "lv")) (pgs_cons (pg_name (i := 4) sc_form.nd rfl (by walk_at "lv")) (pgs_cons (pg_name (i := 5) sc_form.nd rfl (by walk_at "lv")) (pgs_cons (pg_name (i := 6) sc_form.nd rfl (by walk_at "lv")) pgs_nil))))))))
        (pss_cons (ps_set (i := 7) sc_form.nd rfl (by walk_at "lv") (pe_ix ix_list (pe_lc (own := [("_law_d", 14)]) (g := gName 14) (tt := tAnd (tTest (tOp rEq (tOp (rI (fun _ j => 0 < j) fun i j => V.int (i % j)) (tCB (fun xs H Q => (∃ i, xs = [V.int i] ∧ Q (V.int i) H) ∨ ∃ b, xs = [V.bl b] ∧ Q (V.int (if b then 1 else 0)) H) (tCons (tVar 4) tNil)) (tVar 14)) (tC (.int 0)))) (tB (tCB (rAll K) (tCons (tLc (iRng1 (tCons (tVar 4) tNil)) (gName 15) tYes (tAndV (tOp rEq (tOp (rIxL K) (tVar 5) (tVar 15)) (tOp (rIxL K) (tVar 5) (tOp (rI (fun _ j => 0 < j) fun i j => V.int (i % j)) (tCB (fun xs H Q => (∃ i, xs = [V.int i] ∧ Q (V.int i) H) ∨ ∃ b, xs = [V.bl b] ∧ Q (V.int (if b then 1 else 0)) H) (tCons (tVar 15) tNil)) (tVar 14)))) (tOp rEq (tOp (rIxL K) (tVar 6) (tVar 15)) (tOp (rIxL K) (tVar 6) (tOp (rI (fun _ j => 0 < j) fun i j => V.int (i % j)) (tCB (fun xs H Q => (∃ i, xs = [V.int i] ∧ Q (V.int i) H) ∨ ∃ b, xs = [V.bl b] ∧ Q (V.int (if b then 1 else 0)) H) (tCons (tVar 15) tNil)) (tVar 14))))) [15]) tNil)))) rfl sc_form.nd (pi_range2 (by rfl) N.range (pa_cons pe_int (pa_cons (pe_op op_add (pv 4) pe_int) pa_nil))) (blkOk_by (N := N_form) (sc := defScope s_form) (by decide +kernel)) (fun _ _ _ _ _ => (pg_name (i := 14) sc_form.nd rfl (by walk_at "lv"))) (fun _ _ _ _ _ => (pts_one (PW.pt (pw_and (pt_cmpR op_eq (pe_op op_mod (pe_callTy call_int1 (by rfl) N.int boot_int (pa_cons (pv 4) pa_nil)) (pv 14)) pe_int (nomark _)) (pw_and1 (pt_val (pe_callB (cr_all rfl) (by rfl) N.all (by decide +kernel) (pa_cons (pe_lc (own := [("_law_k", 15)]) (g := gName 15) (tt := tYes) rfl sc_form.nd (pi_range1 (by rfl) N.range (pa_cons (pv 4) pa_nil)) (blkOk_by (N := N_form) (sc := scD) (by decide +kernel)) (fun _ _ _ _ _ => (pg_name (i := 15) sc_form.nd rfl (by walk_at "lv"))) (fun _ _ _ _ _ => pts_nil) (fun _ _ _ _ _ => (pe_and (pe_cmpR op_eq (pe_ix (r := rIxL K) ix_list (pv 5) (pv 15) (fun _ _ => rfl)) (pe_ix (r := rIxL K) ix_list (pv 5) (pe_op op_mod (pe_callTy call_int1 (by rfl) N.int boot_int (pa_cons (pv 15) pa_nil)) (pv 14)) (fun _ _ => rfl)) (nomark _)) (pe_one (pe_cmpR op_eq (pe_ix (r := rIxL K) ix_list (pv 6) (pv 15) (fun _ _ => rfl)) (pe_ix (r := rIxL K) ix_list (pv 6) (pe_op op_mod (pe_callTy call_int1 (by rfl) N.int boot_int (pa_cons (pv 15) pa_nil)) (pv 14)) (fun _ _ => rfl)) (nomark _)))))) pa_nil)))))))) (fun _ _ _ _ _ => (pv 14))) pe_int (fun _ _ => rfl)))
        (pss_cons (ps_setLc (i := 8) (own := [("_law_n", 16)]) (g := gName 16) (tt := tYes) rfl sc_form.nd rfl rfl (sw_true rfl rfl rfl (by decide +kernel)) (pi_rangeL (by rfl) N.range (pa_cons (pe_op op_sub (pv 1) (pv 4)) (pa_cons (pe_op op_add (pe_op op_add (pv 2) (pv 4)) pe_int) pa_nil))) (blkOk_by (N := N_form) (sc := defScope s_form) (by decide +kernel)) (fun _ _ _ _ _ => (pg_name (i := 16) sc_form.nd rfl (by walk_at "lv"))) (fun _ _ _ _ _ => pts_nil) (fun _ _ _ _ _ => (pv 16)))
        (pss_cons (ps_setLc (i := 9) (own := [("_law_n", 16)]) (g := gName 16) rfl sc_form.nd rfl rfl (sw_true rfl rfl rfl (by decide +kernel)) (pi_list (pv 8)) (blkOk_by (N := N_form) (sc := defScope s_form) (by decide +kernel)) (fun _ _ _ _ _ => (pg_name (i := 16) sc_form.nd rfl (by walk_at "lv"))) (fun _ _ _ _ _ => (pts_one (pt_cmpR op_ne (pe_k Gh hr (by rfl) pass0 (pa_cons (pv 0) (pa_cons (pv 16) pa_nil))) (pe_ix (r := rIxL K) ix_list (pv 5) (pe_op op_mod (pe_callTy call_int1 (by rfl) N.int boot_int (pa_cons (pv 16) pa_nil)) (pv 4)) (fun _ _ => rfl)) (nomark _)))) (fun _ _ _ _ _ => (pv 16)))
        (pss_cons (ps_setLc (i := 10) (own := [("_law_n", 16)]) (g := gName 16) rfl sc_form.nd rfl rfl (sw_true rfl rfl rfl (by decide +kernel)) (pi_list (pv 8)) (blkOk_by (N := N_form) (sc := defScope s_form) (by decide +kernel)) (fun _ _ _ _ _ => (pg_name (i := 16) sc_form.nd rfl (by walk_at "lv"))) (fun _ _ _ _ _ => (pts_one (pt_cmpR op_ne (pe_k Gh hr (by rfl) pass0 (pa_cons (pv 0) (pa_cons (pv 16) pa_nil))) (pe_ix (r := rIxL K) ix_list (pv 6) (pe_op op_mod (pe_callTy call_int1 (by rfl) N.int boot_int (pa_cons (pv 16) pa_nil)) (pv 4)) (fun _ _ => rfl)) (nomark _)))) (fun _ _ _ _ _ => (pv 16)))
        (pss_cons (ps_set (i := 11) sc_form.nd rfl (by walk_at "lv") pe_int)
        (pss_cons (ps_set (i := 12) sc_form.nd rfl (by walk_at "lv") (pe_un un_neg pe_int))
        (pss_cons (ps_if (pt_truth (pv 9) (by intro _; rfl)) (pss_cons (ps_set (i := 12) sc_form.nd rfl (by walk_at "lv") (pe_ix ix_list (pv 9) (pe_un un_neg pe_int) (fun _ _ => rfl))) (pss_one (ps_set (i := 11) sc_form.nd rfl (by walk_at "lv") (pe_callB (call_min2 rfl) (by rfl) N.min (by decide +kernel) (pa_cons (pe_op op_add (pv 12) pe_int) (pa_cons (pe_ix ix_list (pv 10) pe_int (fun _ _ => rfl)) pa_nil)))))) pss_nil)
        dtl)))))))), ?_⟩
    refine ⟨_, rfl, t, _, rfl, SqL.of a.t, rfl, _, _, rfl, _, _, rfl, _, _, rfl, _, _, rfl, _, _, rfl, _, _, rfl, rfl, ?_⟩
    obtain ⟨sz, z0, z1, z2⟩ := size_first ok
    refine ⟨_, rfl, _, _, rfl, rfl, _, _, rfl, ⟨by omega, by omega, by omega, by omega⟩, fun D hD => ?_⟩
    rw [show ((T.us.length : Int) + 1 - 1).toNat = T.us.length by omega]
    have sD : Same H (upd H D (.lst [])) := same_new (Same.refl H) hD
    refine lc_range (lo := 1) (n := T.us.length) (fun i H2 => H2 D = some (.lst ((fil (okD T) 1 i).map V.int)) ∧ Same H H2) ⟨upd_same, sD⟩ ?_ ?_
    · rintro i H2 hi' ⟨e, s2⟩
      have hd0 : (0 : Int) < 1 + (i : Int) := by omega
      have sm : ((fil (okD T) 1 i).map V.int).length < sizeLine := small1000 (by rw [List.length_map]; exact Nat.le_trans (fil_len _ _ _) (by omega))
      have no : ∀ H3, H3 D = some (.lst ((fil (okD T) 1 i).map V.int)) → Same H H3 → okD T (1 + (i : Int)) = false → H3 D = some (.lst ((fil (okD T) 1 (i + 1)).map V.int)) ∧ Same H H3 := fun H3 e3 s3 z => ⟨by rw [fil_neg (by rw [z]; exact Bool.false_ne_true)]; exact e3, s3⟩
      refine ⟨rfl, _, rfl, .inl ⟨_, rfl, _, rfl, _, _, rfl, rfl, hd0, rfl, _, rfl, ?_⟩⟩
      rw [vdec]
      cases hc1 : decide ((T.us.length : Int) % (1 + (i : Int)) = 0) with
      | false =>
        refine iteF (iteF (no H2 e s2 ?_))
        unfold okD
        rw [hc1]
        rfl
      | true =>
        refine iteT ⟨_, rfl, _, rfl, by omega, by omega, fun D2 hD2 => ?_⟩
        rw [show ((T.us.length : Int)).toNat = T.us.length by omega]
        have sD2 : Same H2 (upd H2 D2 (.lst [])) := same_new (Same.refl H2) hD2
        refine lc_range (lo := 0) (n := T.us.length) (fun j H4 => H4 D2 = some (.lst (((List.range j).map fun k => decide (T.us.getD k false = okD.cycD T.us k (1 + (i : Int))) && decide (T.ds.getD k false = okD.cycD T.ds k (1 + (i : Int)))).map V.bl)) ∧ Same H2 H4) ⟨upd_same, sD2⟩ ?_ ?_
        · rintro j H4 hj ⟨e4, s4⟩
          have s14 := s2.trans s4
          have m0 := Int.emod_nonneg (j : Int) (by omega : 1 + (i : Int) ≠ 0)
          have m1 : (j : Int) % (1 + (i : Int)) ≤ (j : Int) := by
            rcases Int.lt_or_le (j : Int) (1 + (i : Int)) with q | q
            · rw [Int.emod_eq_of_lt (by omega) q]
              exact Int.le_refl _
            · have := Int.emod_lt_of_pos (j : Int) hd0
              omega
          have g1 : ∀ l : List Bool, l.length = T.us.length → atI (l.map V.bl) (0 + (j : Int)) = some (.bl (l.getD j false)) := fun l hl => by
            rw [blI_get (by omega) (by omega), show (0 + (j : Int)).toNat = j by omega]
          have g2 : ∀ l : List Bool, l.length = T.us.length → atI (l.map V.bl) ((0 + (j : Int)) % (1 + (i : Int))) = some (.bl (okD.cycD l j (1 + (i : Int)))) := fun l hl => by
            rw [Int.zero_add, blI_get m0 (by omega)]
            rfl
          refine ⟨rfl, _, rfl, _, rfl, u, _, _, _, rfl, rfl, SqL.of (s14 _ _ a.l.us), g1 _ rfl, _, rfl, _, rfl, .inl ⟨_, rfl, _, rfl, _, _, rfl, rfl, hd0, u, _, _, _, rfl, rfl, SqL.of (s14 _ _ a.l.us), g2 _ rfl, rfl, _, rfl, ?_⟩⟩
          rw [vdecB]
          have ext : ∀ b : Bool, (decide (T.us.getD j false = okD.cycD T.us j (1 + (i : Int))) && decide (T.ds.getD j false = okD.cycD T.ds j (1 + (i : Int)))) = b → ((List.range (j + 1)).map fun k => decide (T.us.getD k false = okD.cycD T.us k (1 + (i : Int))) && decide (T.ds.getD k false = okD.cycD T.ds k (1 + (i : Int)))).map V.bl = ((List.range j).map fun k => decide (T.us.getD k false = okD.cycD T.us k (1 + (i : Int))) && decide (T.ds.getD k false = okD.cycD T.ds k (1 + (i : Int)))).map V.bl ++ [V.bl b] := fun b hb => by
            rw [List.range_succ, List.map_append, List.map_append, ← hb]
            rfl
          have fin : ∀ b : Bool, (decide (T.us.getD j false = okD.cycD T.us j (1 + (i : Int))) && decide (T.ds.getD j false = okD.cycD T.ds j (1 + (i : Int)))) = b → ∃ acc, H4 D2 = some (.lst acc) ∧ acc.length < sizeLine ∧ (upd H4 D2 (.lst (acc ++ [V.bl b])) D2 = some (.lst (((List.range (j + 1)).map fun k => decide (T.us.getD k false = okD.cycD T.us k (1 + (i : Int))) && decide (T.ds.getD k false = okD.cycD T.ds k (1 + (i : Int)))).map V.bl)) ∧ Same H2 (upd H4 D2 (.lst (acc ++ [V.bl b])))) := fun b hb => ⟨_, e4, small1000 (by rw [List.length_map, List.length_map, List.length_range]; omega), by rw [ext b hb]; exact upd_same, fun o z hz => by rw [upd_ne (ne_of_none hz hD2)]; exact s4 o z hz⟩
          cases q1 : decide (T.us.getD j false = okD.cycD T.us j (1 + (i : Int))) with
          | false => exact iteF (fin false (by rw [q1]; rfl))
          | true =>
            refine iteT ⟨_, rfl, _, rfl, d, _, _, _, rfl, rfl, SqL.of (s14 _ _ a.l.ds), g1 _ ok.len, _, rfl, _, rfl, .inl ⟨_, rfl, _, rfl, _, _, rfl, rfl, hd0, d, _, _, _, rfl, rfl, SqL.of (s14 _ _ a.l.ds), g2 _ ok.len, rfl, ?_⟩⟩
            refine fin _ ?_
            rw [vdecB, q1]
            rfl
        · rintro H4 ⟨e4, s4⟩
          refine ⟨D2, _, rfl, SqL.of e4, _, rfl, ?_⟩
          have ex : okD T (1 + (i : Int)) = ((List.range T.us.length).map fun k => decide (T.us.getD k false = okD.cycD T.us k (1 + (i : Int))) && decide (T.ds.getD k false = okD.cycD T.ds k (1 + (i : Int)))).all id := by
            show (_ && _) = _
            rw [hc1]
            rfl
          cases ha2 : ((List.range T.us.length).map fun k => decide (T.us.getD k false = okD.cycD T.us k (1 + (i : Int))) && decide (T.ds.getD k false = okD.cycD T.ds k (1 + (i : Int)))).all id with
          | false => exact iteF (no H4 (s4 _ _ e) (s2.trans s4) (by rw [ex, ha2]))
          | true =>
            refine iteT ⟨_, rfl, _, s4 _ _ e, sm, ?_, fun b o z => ?_⟩
            · rw [fil_pos (by rw [ex, ha2]), List.map_append]
              exact upd_same
            · rw [upd_ne (ne_of_none z hD)]
              exact (s2.trans s4) b o z
    · rintro H1 ⟨e1, s1⟩
      have g0 : atI ((fil (okD T) 1 T.us.length).map V.int) 0 = some (.int (sz : Nat)) := atI_nat (j := 0) (by rw [List.getElem?_map, z0]; rfl)
      refine ⟨D, _, _, _, rfl, rfl, SqL.of e1, g0, ?_⟩
      -- the window
      refine ⟨_, rfl, _, rfl, _, _, rfl, rfl, _, rfl, _, rfl, _, _, rfl, rfl, _, _, rfl, rfl, _, _, rfl, fun D8 hD8 => ?_⟩
      rw [show (T.hi + (T.us.length : Int) + 1 - (T.lo - (T.us.length : Int))).toNat = T.cs.length + T.us.length + T.us.length by omega]
      refine lc_itF (G := fun _ => True) walk_range hD8 (fun i => (irow (T.lo - T.us.length) i).map V.int) rfl (fun i hi' => small1000 (by rw [List.length_map]; unfold irow; rw [List.length_map, List.length_range]; omega)) (fun _ _ => trivial) ?_ ?_ ?_ ?_ ?_
      · rintro i x H2 H3 hi' e s2 ⟨rfl, rfl⟩
        refine ⟨rfl, _, rfl, e, s2, ?_⟩
        rw [irow_succ, List.map_append]
        rfl
      · exact fun x H' Q Q' h q => h _ _ q
      · exact fun σ2 H2 Q1 Q2 h q => h _ _ q
      · rintro σ2 H2 Q1 Q2 h ⟨v, hv, q⟩
        exact ⟨v, hv, h _ _ q⟩
      intro H8 e8 s8
      have len8 : ((irow (T.lo - T.us.length) (T.cs.length + T.us.length + T.us.length)).map V.int).length = T.cs.length + T.us.length + T.us.length := by
        rw [List.length_map]; unfold irow; rw [List.length_map, List.length_range]
      have s08 := s1.trans s8
      have hm' : (0 : Int) < (T.us.length : Int) := by omega
      -- tops
      refine ⟨_, rfl, D8, rfl, ⟨_, SqL.of e8⟩, fun D9 hD9 => ?_⟩
      refine lc_it (walk_list2 (SqL.of e8)) (fun i H2 => H2 D9 = some (.lst ((fil (fun n => !decide (T.has n = T.U n)) (T.lo - T.us.length) i).map V.int)) ∧ Same H8 H2) ⟨upd_same, same_new (Same.refl H8) hD9⟩ (fun i H2 _ h => h.2) ?_ ?_
      · rintro i x H2 H3 hi' ⟨e, s2⟩ ⟨rfl, e4⟩
        obtain ⟨n, hn, rfl⟩ := int_at e4
        obtain ⟨rfl, hiN⟩ := irow_at hn
        have sA := s08.trans s2
        refine ⟨rfl, _, rfl, _, rfl, t, c, u, d, T, _, rfl, a.same sA, ok, _, rfl, _, rfl, .inl ⟨_, rfl, _, rfl, _, _, rfl, rfl, hm', u, _, _, _, rfl, rfl, SqL.of (sA _ _ a.l.us), cyc_get (n := T.lo - T.us.length + (i : Int)) rfl hm, rfl, _, rfl, ?_⟩⟩
        rw [vdecB]
        cases hb : (!decide (T.has (T.lo - T.us.length + (i : Int)) = T.U (T.lo - T.us.length + (i : Int)))) with
        | false =>
          rw [show (!decide (T.has (T.lo - T.us.length + (i : Int)) = cyc T.us (T.lo - T.us.length + (i : Int)))) = false from hb]
          refine iteF ⟨?_, s2⟩
          rw [fil_neg (by rw [hb]; exact Bool.false_ne_true)]
          exact e
        | true =>
          rw [show (!decide (T.has (T.lo - T.us.length + (i : Int)) = cyc T.us (T.lo - T.us.length + (i : Int)))) = true from hb]
          refine iteT ⟨_, rfl, _, e, small1000 (by rw [List.length_map]; exact Nat.le_trans (fil_len _ _ _) (by omega)), ?_, fun b o z => ?_⟩
          · rw [fil_pos hb, List.map_append]
            exact upd_same
          · rw [upd_ne (ne_of_none z hD9)]
            exact s2 b o z
      rintro H9 ⟨e9, s9⟩
      rw [len8] at e9
      have e8' := s9 _ _ e8
      have s09 := s08.trans s9
      refine ⟨_, rfl, D8, rfl, ⟨_, SqL.of e8'⟩, fun D10 hD10 => ?_⟩
      refine lc_it (walk_list2 (SqL.of e8')) (fun i H2 => H2 D10 = some (.lst ((fil (fun n => !decide (T.has n = T.D n)) (T.lo - T.us.length) i).map V.int)) ∧ Same H9 H2) ⟨upd_same, same_new (Same.refl H9) hD10⟩ (fun i H2 _ h => h.2) ?_ ?_
      · rintro i x H2 H3 hi' ⟨e, s2⟩ ⟨rfl, e4⟩
        obtain ⟨n, hn, rfl⟩ := int_at e4
        obtain ⟨rfl, hiN⟩ := irow_at hn
        have sA := s09.trans s2
        refine ⟨rfl, _, rfl, _, rfl, t, c, u, d, T, _, rfl, a.same sA, ok, _, rfl, _, rfl, .inl ⟨_, rfl, _, rfl, _, _, rfl, rfl, hm', d, _, _, _, rfl, rfl, SqL.of (sA _ _ a.l.ds), cyc_get (n := T.lo - T.us.length + (i : Int)) ok.len hm, rfl, _, rfl, ?_⟩⟩
        rw [vdecB]
        cases hb : (!decide (T.has (T.lo - T.us.length + (i : Int)) = T.D (T.lo - T.us.length + (i : Int)))) with
        | false =>
          rw [show (!decide (T.has (T.lo - T.us.length + (i : Int)) = cyc T.ds (T.lo - T.us.length + (i : Int)))) = false from hb]
          refine iteF ⟨?_, s2⟩
          rw [fil_neg (by rw [hb]; exact Bool.false_ne_true)]
          exact e
        | true =>
          rw [show (!decide (T.has (T.lo - T.us.length + (i : Int)) = cyc T.ds (T.lo - T.us.length + (i : Int)))) = true from hb]
          refine iteT ⟨_, rfl, _, e, small1000 (by rw [List.length_map]; exact Nat.le_trans (fil_len _ _ _) (by omega)), ?_, fun b o z => ?_⟩
          · rw [fil_pos hb, List.map_append]
            exact upd_same
          · rw [upd_ne (ne_of_none z hD10)]
            exact s2 b o z
      rintro H10 ⟨e10, s10⟩
      rw [len8] at e10
      have e9' := s10 _ _ e9
      have s010 := s09.trans s10
      refine ⟨_, rfl, _, rfl, _, .inl ⟨_, SqL.of e9', rfl⟩, ?_⟩
      by_cases hnil : fil (fun n => !decide (T.has n = T.U n)) (T.lo - T.us.length) (T.cs.length + T.us.length + T.us.length) = []
      · rw [hnil]
        refine iteF ?_
        exact tail H10 0 (-1) sz _ _ _ (form_none ok z2 (tops_nil ok hnil)) z1 (by omega) (by omega) (by omega) (by omega) (by omega) s010
      · obtain ⟨r, v, hv, _⟩ := fil_last hnil
        obtain ⟨v1, v2, v3, v4⟩ := tops_last ok hv
        obtain ⟨b, b0, b1, b2, b3⟩ := bottoms_first ok ⟨v, v1⟩
        rw [hv]
        have ne : (!((r ++ [v]).map V.int).isEmpty) = true := by cases r <;> rfl
        rw [ne]
        rw [hv, List.map_append] at e9'
        refine iteT ⟨_, rfl, _, rfl, D9, _, _, _, rfl, rfl, SqL.of e9', atI_last _ _, ?_⟩
        refine ⟨_, rfl, _, _, rfl, rfl, _, rfl, D10, _, _, _, rfl, rfl, SqL.of e10, atI_nat (j := 0) (by rw [List.getElem?_map, b0]; rfl), _, _, rfl, ?_⟩
        have fm := form_some z2 v1 v2 b1 b2
        have el : (if v + 1 < b then v + 1 else b) = (if b < v + 1 then b else v + 1) := by split <;> split <;> omega
        rw [el] at fm
        refine tail H10 (if b < v + 1 then b else v + 1) v sz _ _ _ fm z1 ?_ ?_ (by omega) (by omega) ?_ s010
        · split <;> omega
        · split <;> omega
        · split <;> omega
end
end My
set_option Elab.async false
set_option linter.all false
set_option maxRecDepth 100000
set_option maxHeartbeats 8000000
namespace My
open PySem PySem.Spec PyProof.Rows L2
local macro_rules | `(tactic| walk_at "lv") => `(tactic| first | exact Or.inl rfl | exact Or.inr rfl)
section
variable {P : Program} {w : World} {K : PySem.W.Frag} {mg : Str → Option Value} {base : Heap}
/-- [draw(2) == 1 for k in range(m)] -/
theorem lc_draw {σ : L2.St} {H : Hp} {Q : VK} {i j m : Nat} {p c : Addr} (hj : σ[j]? = some (some (.int (m : Int)))) (hm2 : m ≤ 1000) (hh : HandC H p c) (hp : ∀ v, ((wipe σ [i]).set i (some v))[0]? = some (some (.ref p)))
    (hw : ∀ v, wipe ((wipe σ [i]).set i (some v)) [i] = wipe σ [i])
    (k : ∀ D (bs : List Bool) H', bs.length = m → H D = none → H' D = some (.lst (bs.map V.bl)) → HandC H' p c → But p H H' → Q (.ref D) H') :
    tLc (iRng1 (tCons (tVar j) tNil)) (gName i) tYes (tOp rEq (tCall spDraw [] E0 (tCons (tVar 0) (tCons (tC (.int 2)) tNil))) (tC (.int 1))) [i] σ H Q := by
  refine ⟨_, hj, _, rfl, by omega, by omega, fun D hD => ?_⟩
  rw [show ((m : Int)).toNat = m by omega]
  have hn := hh.ne hD
  refine lc_range (lo := 0) (n := m) (fun x H2 => ∃ bs : List Bool, bs.length = x ∧ H2 D = some (.lst (bs.map V.bl)) ∧ HandC H2 p c ∧ But p H H2) ⟨[], rfl, upd_same, hh.upd hn.1 hn.2, fun b o hb e => by rw [upd_ne (ne_of_none e hD)]; exact e⟩ ?_ ?_
  · rintro x H2 hx ⟨bs, hl, e, h2, b2⟩
    refine ⟨hw _, _, hp _, p, c, 2, rfl, h2, ⟨by decide, by decide⟩, fun r H3 r0 r1 h3 b3 => ⟨rfl, _, b3 _ _ hn.1.symm e, small1000 (by rw [List.length_map]; omega), bs ++ [decide (V.int r = V.int 1)], by rw [List.length_append, hl]; rfl, ?_, h3.upd hn.1 hn.2, fun b o hb z => ?_⟩⟩
    · rw [List.map_append]
      exact upd_same
    · rw [upd_ne (ne_of_none z hD)]
      exact b3 _ _ hb (b2 _ _ hb z)
  · rintro H2 ⟨bs, hl, e, h2, b2⟩
    exact k D bs H2 hl hD e h2 b2
theorem HandC.neb {H : Hp} {p c u : Addr} {bs : List Bool} (h : HandC H p c) (e : H u = some (.lst (bs.map V.bl))) : u ≠ p := by
  obtain ⟨cs, i, r, t, e1, _, _⟩ := h
  exact ne_of e e1 (by
    intro z
    cases bs with
    | nil => cases z
    | cons b r => cases z)
theorem sizes_at {r : Int} (h0 : 0 ≤ r) (h1 : r < 12) : ∃ m : Nat, atI [V.int 1, V.int 2, V.int 3, V.int 4, V.int 6, V.int 1, V.int 5, V.int 2, V.int 8, V.int 9, V.int 12, V.int 7] r = some (.int (m : Int)) ∧ 0 < m ∧ m ≤ 12 := by
  have : r = 0 ∨ r = 1 ∨ r = 2 ∨ r = 3 ∨ r = 4 ∨ r = 5 ∨ r = 6 ∨ r = 7 ∨ r = 8 ∨ r = 9 ∨ r = 10 ∨ r = 11 := by omega
  rcases this with rfl | rfl | rfl | rfl | rfl | rfl | rfl | rfl | rfl | rfl | rfl | rfl
  · exact ⟨1, rfl, by decide, by decide⟩
  · exact ⟨2, rfl, by decide, by decide⟩
  · exact ⟨3, rfl, by decide, by decide⟩
  · exact ⟨4, rfl, by decide, by decide⟩
  · exact ⟨6, rfl, by decide, by decide⟩
  · exact ⟨1, rfl, by decide, by decide⟩
  · exact ⟨5, rfl, by decide, by decide⟩
  · exact ⟨2, rfl, by decide, by decide⟩
  · exact ⟨8, rfl, by decide, by decide⟩
  · exact ⟨9, rfl, by decide, by decide⟩
  · exact ⟨12, rfl, by decide, by decide⟩
  · exact ⟨7, rfl, by decide, by decide⟩
theorem far_at {r m : Int} (h0 : 0 ≤ r) (h1 : r < 4) (m0 : 0 ≤ m) (m1 : m ≤ 8) : ∃ lo : Int, atI [V.int (20001 - m), V.int (-20000), V.int (19990 - m), V.int (-19980)] r = some (.int lo) ∧ -20000 ≤ lo ∧ lo + m ≤ 20001 := by
  have : r = 0 ∨ r = 1 ∨ r = 2 ∨ r = 3 := by omega
  rcases this with rfl | rfl | rfl | rfl
  · exact ⟨_, rfl, by omega, by omega⟩
  · exact ⟨_, rfl, by omega, by omega⟩
  · exact ⟨_, rfl, by omega, by omega⟩
  · exact ⟨_, rfl, by omega, by omega⟩
/-! ### _law_telling_drawn -/
structure Drawn (T : Tl) : Prop where
  ok : T.Ok
  m : T.us.length ≤ 12
  c : T.cs.length ≤ 8
  lo : -20000 ≤ T.lo
  hi : T.hi ≤ 20000
def spTD : Sp := fun vs H Q _ => ∃ (p c : Addr) (far : Bool), vs = [.ref p, .bl far] ∧ HandC H p c ∧ ∀ t c' u' d' T H', HandC H' p c → But p H H' → TellAt H' t T c' u' d' → Drawn T → (far = false → -6 ≤ T.lo ∧ T.lo ≤ 6) → Q (.ref t) H'
abbrev s_td : Stmt := top 59
abbrev N_td : List Str := ["_law_hand_here", "_law_far", "_law_sizes", "_law_modulus", "_law_style", "_law_ups", "_law_downs", "_law_many", "_law_low", "_law_core", "_law_k"]
theorem sc_td : FnScope N_td ["_law_hand_here", "_law_far"] (defScope s_td) := ⟨rfl, rfl, rfl, by decide +kernel, rfl, by decide +kernel, by decide +kernel⟩
theorem kp_td (F : At K mg "_law_telling_drawn" s_td) (GD : Keeps CX0 P w K mg base "_law_draw" 2 ["_law_hand_here", "_law_many"] spDraw) (N : Nb mg) : Keeps CX0 P w K mg base "_law_telling_drawn" 3 ["_law_hand_here", "_law_far"] spTD := by
  refine keeps_of F sc_td (fun _ _ _ _ _ _ us hl => match us, hl with | [_, _], _ => rfl) (fun vs H Q E h => ?_) (fun f cdv A outer s H vs Q E hr h => ?_)
  · obtain ⟨p, c, far, rfl, _⟩ := h
    rfl
  · obtain ⟨p, c, far, rfl, hh, kk⟩ := h
    -- the core and the end
    obtain ⟨t3, d3, tail3⟩ : ∃ tl, PSs (cxOf CX0 P w K mg base N_td "_law_telling_drawn" (defScope s_td) f cdv A outer s H E).nox ((defBody s_td).drop 10) tl ∧ ∀ (H1 : Hp) (x2 x4 : Option V) (sty lo : Int) (many : Nat) (us ds : List Bool) (u d : Addr), x4 = some (.int sty) → HandC H1 p c → But p H H1 → H1 u = some (.lst (us.map V.bl)) → H1 d = some (.lst (ds.map V.bl)) → ds.length = us.length → 0 < us.length → us.length ≤ 12 → many ≤ 8 → -20000 ≤ lo → lo + many ≤ 20001 → (far = false → -6 ≤ lo ∧ lo ≤ 6) →
        tl { nx := fun _ H' => Q .non H', rt := Q } [some (V.ref p), some (V.bl far), x2, some (V.int us.length), x4, some (V.ref u), some (V.ref d), some (V.int many), some (V.int lo), none, none] H1 := by
      refine ⟨_, (pss_cons (ps_setLc (i := 9) (own := [("_law_k", 10)]) (g := gName 10) (tt := tYes) rfl sc_td.nd rfl rfl (sw_true rfl rfl rfl (by decide +kernel)) (pi_range1 (by rfl) N.range (pa_cons (pv 7) pa_nil)) (blkOk_by (N := N_td) (sc := defScope s_td) (by decide +kernel)) (fun _ _ _ _ _ => (pg_name (i := 10) sc_td.nd rfl (by walk_at "lv"))) (fun _ _ _ _ _ => pts_nil) (fun _ _ _ _ _ => (pe_cmpR op_eq (pe_k GD hr (by rfl) pass0 (pa_cons (pv 0) (pa_cons pe_int pa_nil))) pe_int (nomark _))))
        (pss_cons (ps_if (PW.pt (pw_and (pt_cmpR op_eq (pv 4) pe_int (nomark _)) (pw_and1 (pt_cmpR op_eq (pe_k GD hr (by rfl) pass0 (pa_cons (pv 0) (pa_cons pe_int pa_nil))) pe_int (nomark _))))) (pss_one (ps_setLc (i := 9) (own := [("_law_k", 10)]) (g := gName 10) (tt := tYes) rfl sc_td.nd rfl rfl (sw_true rfl rfl rfl (by decide +kernel)) (pi_range1 (by rfl) N.range (pa_cons (pv 7) pa_nil)) (blkOk_by (N := N_td) (sc := defScope s_td) (by decide +kernel)) (fun _ _ _ _ _ => (pg_name (i := 10) sc_td.nd rfl (by walk_at "lv"))) (fun _ _ _ _ _ => pts_nil) (fun _ _ _ _ _ => (pe_ix (r := rIxL K) ix_list (pv 5) (pe_op op_mod (pe_callTy call_int1 (by rfl) N.int boot_int (pa_cons (pe_op op_add (pv 8) (pv 10)) pa_nil)) (pv 3)) (fun _ _ => rfl))))) pss_nil)
        (pss_one (ps_ret (pe_lst (pa_cons (pv 8) (pa_cons (pe_op op_sub (pe_op op_add (pv 8) (pv 7)) pe_int) (pa_cons (pv 9) (pa_cons (pv 3) (pa_cons (pv 5) (pa_cons (pv 6) pa_nil))))))))))), ?_⟩
      rintro H1 x2 x4 sty lo many us ds u d rfl h1 b1 eu ed el m0 m1 cm l0 l1 lf
      have fin : ∀ (H2 : Hp) (c1 : Addr) (cs : List Bool), cs.length = many → HandC H2 p c → But p H1 H2 → H2 c1 = some (.lst (cs.map V.bl)) →
          tRet (tLst (tCons (tVar 8) (tCons (tOp (rI0 fun i j => V.int (i - j)) (tOp (rI0 fun i j => V.int (i + j)) (tVar 8) (tVar 7)) (tC (V.int 1))) (tCons (tVar 9) (tCons (tVar 3) (tCons (tVar 5) (tCons (tVar 6) tNil))))))) { nx := fun _ H' => Q .non H', rt := Q } [some (V.ref p), some (V.bl far), x2, some (V.int us.length), some (V.int sty), some (V.ref u), some (V.ref d), some (V.int many), some (V.int lo), some (V.ref c1), none] H2 := by
        intro H2 c1 cs cl h2 b2 ec
        refine ⟨_, rfl, _, rfl, _, rfl, _, _, rfl, rfl, _, _, rfl, rfl, _, rfl, _, rfl, _, rfl, _, rfl, (by show 6 ≤ sizeLine; decide), fun t ht => ?_⟩
        have st := same_new (o := .lst [V.int lo, V.int (lo + (many : Int) - 1), V.ref c1, V.int us.length, V.ref u, V.ref d]) (Same.refl H2) ht
        refine kk t c1 u d ⟨lo, cs, us, ds⟩ _ (h2.same st) ((b1.trans b2).trans (But.of st)) ⟨?_, ⟨st _ _ ec, st _ _ (b2 _ _ (h1.neb eu) eu), st _ _ (b2 _ _ (h1.neb ed) ed)⟩⟩ ⟨⟨el, m0⟩, m1, by show cs.length ≤ 8; omega, l0, by show lo + (cs.length : Int) - 1 ≤ 20000; omega⟩ (fun q => lf q)
        refine Eq.trans upd_same ?_
        show some (HO.lst [V.int lo, V.int (lo + (many : Int) - 1), V.ref c1, V.int us.length, V.ref u, V.ref d]) = some (HO.lst [V.int lo, V.int (lo + (cs.length : Int) - 1), V.ref c1, V.int us.length, V.ref u, V.ref d])
        rw [cl]
      dsimp only [tSeq, tAsg]
      refine lc_draw (j := 7) (i := 10) (m := many) rfl (by omega) h1 (fun _ => rfl) (fun _ => rfl) fun c1 cs H2 cl n1 e1 h2 b2 => ?_
      refine ⟨_, rfl, rfl, _, rfl, ite2 (fun q1 => ?_) (fun q1 => iteF (fin H2 c1 cs cl h2 b2 e1))⟩
      refine ⟨_, rfl, p, c, 2, rfl, h2, ⟨by decide, by decide⟩, fun r H3 r0 r1 h3 b3 => ⟨rfl, _, rfl, ite2 (fun q2 => ?_) (fun q2 => fin H3 c1 cs cl h3 (b2.trans b3) (b3 _ _ (h2.neb e1) e1))⟩⟩
      have b13 := b2.trans b3
      have eu3 := b13 _ _ (h1.neb eu) eu
      refine ⟨_, rfl, _, rfl, by omega, by omega, fun D hD => ?_⟩
      rw [show ((many : Int)).toNat = many by omega]
      refine lc_itF (G := fun _ => True) walk_range hD (fun x => ((List.range x).map fun k => cyc us (lo + (0 + (k : Nat)))).map V.bl) rfl (fun x hx => small1000 (by rw [List.length_map, List.length_map, List.length_range]; omega)) (fun _ _ => trivial) ?_ ?_ ?_ ?_ ?_
      · rintro x v H4 H5 hx e s ⟨rfl, rfl⟩
        refine ⟨rfl, _, rfl, _, rfl, _, rfl, _, _, rfl, rfl, .inl ⟨_, rfl, _, rfl, _, _, rfl, rfl, (by omega : (0 : Int) < (us.length : Int)), u, _, _, _, rfl, rfl, SqL.of (s _ _ eu3), cyc_get (n := lo + (0 + (x : Int))) rfl m0, e, s, ?_⟩⟩
        rw [List.range_succ, List.map_append, List.map_append]
        rfl
      · exact fun x H' Q Q' h q => h _ _ q
      · exact fun σ2 H2 Q1 Q2 h q => h _ _ q
      · rintro σ2 H4 Q1 Q2 h ⟨x1, h1, x2, h2, x3, h3, i, j, e1, e2, q⟩
        rcases q with ⟨i', e3, x4, h4, i2, j2, e4, e5, e6, p', xs, ii, v, e7, e8, e9, e10, q⟩ | ⟨b', e3, x4, h4, i2, j2, e4, e5, e6, p', xs, ii, v, e7, e8, e9, e10, q⟩
        · exact ⟨x1, h1, x2, h2, x3, h3, i, j, e1, e2, .inl ⟨i', e3, x4, h4, i2, j2, e4, e5, e6, p', xs, ii, v, e7, e8, e9, e10, h _ _ q⟩⟩
        · exact ⟨x1, h1, x2, h2, x3, h3, i, j, e1, e2, .inr ⟨b', e3, x4, h4, i2, j2, e4, e5, e6, p', xs, ii, v, e7, e8, e9, e10, h _ _ q⟩⟩
      · intro H4 e4 s4
        exact fin H4 D _ (by rw [List.length_map, List.length_range]) (h3.same s4) (b13.trans (But.of s4)) e4
    -- how many, from where
    obtain ⟨t2, d2, tail2⟩ : ∃ tl, PSs (cxOf CX0 P w K mg base N_td "_law_telling_drawn" (defScope s_td) f cdv A outer s H E).nox ((defBody s_td).drop 7) tl ∧ ∀ (H1 : Hp) (x2 : Option V) (sty : Int) (us ds : List Bool) (u d : Addr), HandC H1 p c → But p H H1 → H1 u = some (.lst (us.map V.bl)) → H1 d = some (.lst (ds.map V.bl)) → ds.length = us.length → 0 < us.length → us.length ≤ 12 →
        tl { nx := fun _ H' => Q .non H', rt := Q } [some (V.ref p), some (V.bl far), x2, some (V.int us.length), some (V.int sty), some (V.ref u), some (V.ref d), none, none, none, none] H1 := by
      refine ⟨_, (pss_cons (ps_set (i := 7) sc_td.nd rfl (by walk_at "lv") (pe_k GD hr (by rfl) pass0 (pa_cons (pv 0) (pa_cons pe_int pa_nil))))
        (pss_cons (ps_set (i := 8) sc_td.nd rfl (by walk_at "lv") (pe_op op_sub (pe_k GD hr (by rfl) pass0 (pa_cons (pv 0) (pa_cons pe_int pa_nil))) pe_int))
        (pss_cons (ps_if (PW.pt (pw_and (pt_val (pv 1)) (pw_and1 (pt_cmpR op_eq (pe_k GD hr (by rfl) pass0 (pa_cons (pv 0) (pa_cons pe_int pa_nil))) pe_int (nomark _))))) (pss_one (ps_set (i := 8) sc_td.nd rfl (by walk_at "lv") (pe_ix ix_tup (pe_tup (pa_cons (pe_op op_sub pe_int (pv 7)) (pa_cons (pe_un un_neg pe_int) (pa_cons (pe_op op_sub pe_int (pv 7)) (pa_cons (pe_un un_neg pe_int) pa_nil))))) (pe_k GD hr (by rfl) pass0 (pa_cons (pv 0) (pa_cons pe_int pa_nil))) (fun _ _ => rfl)))) pss_nil)
        d3))), ?_⟩
      rintro H1 x2 sty us ds u d h1 b1 eu ed el m0 m1
      refine ⟨_, rfl, p, c, 9, rfl, h1, ⟨by decide, by decide⟩, fun r H2 r0 r1 h2 b2 => ?_⟩
      refine ⟨_, rfl, p, c, 13, rfl, h2, ⟨by decide, by decide⟩, fun r' H3 r0' r1' h3 b3 => ⟨_, _, rfl, rfl, ?_⟩⟩
      obtain ⟨many, rfl⟩ := Int.eq_ofNat_of_zero_le r0
      have b13 := b2.trans b3
      have eu3 := b13 _ _ (h1.neb eu) eu
      have ed3 := b13 _ _ (h1.neb ed) ed
      refine ⟨_, rfl, _, rfl, ?_⟩
      cases far with
      | false =>
        refine iteF ?_
        exact tail3 H3 x2 _ sty _ many us ds u d rfl h3 (b1.trans b13) eu3 ed3 el m0 m1 (by omega) (by omega) (by omega) (fun _ => ⟨by omega, by omega⟩)
      | true =>
        refine iteT ⟨_, rfl, p, c, 6, rfl, h3, ⟨by decide, by decide⟩, fun r2 H4 r20 r21 h4 b4 => ⟨rfl, _, rfl, ite2 (fun q => ?_) (fun q => ?_)⟩⟩
        · refine ⟨_, rfl, _, _, rfl, rfl, _, rfl, _, rfl, _, _, rfl, rfl, _, rfl, (by show 4 ≤ sizeLine; decide), fun t ht => ?_⟩
          have st := same_new (o := .tup [V.int (20001 - (many : Int)), V.int (-20000), V.int (19990 - (many : Int)), V.int (-19980)]) (Same.refl H4) ht
          refine ⟨_, rfl, p, c, 4, rfl, h4.same st, ⟨by decide, by decide⟩, fun r3 H5 r30 r31 h5 b5 => ?_⟩
          obtain ⟨lo, e1, e2, e3⟩ := far_at (m := (many : Int)) r30 r31 (by omega) (by omega)
          refine ⟨t, _, _, _, rfl, rfl, SqT.of (b5 _ _ (h4.ne ht).1.symm upd_same), e1, ?_⟩
          have b14 := b13.trans (b4.trans ((But.of st).trans b5))
          exact tail3 H5 x2 _ sty lo many us ds u d rfl h5 (b1.trans b14) (b14 _ _ (h1.neb eu) eu) (b14 _ _ (h1.neb ed) ed) el m0 m1 (by omega) e2 e3 (fun z => nomatch z)
        · have b14 := b13.trans b4
          exact tail3 H4 x2 _ sty _ many us ds u d rfl h4 (b1.trans b14) (b14 _ _ (h1.neb eu) eu) (b14 _ _ (h1.neb ed) ed) el m0 m1 (by omega) (by omega) (by omega) (fun z => nomatch z)
    obtain ⟨t1, d1, tail1⟩ : ∃ tl, PSs (cxOf CX0 P w K mg base N_td "_law_telling_drawn" (defScope s_td) f cdv A outer s H E).nox ((defBody s_td).drop 6) tl ∧ ∀ (H1 : Hp) (x2 : Option V) (sty : Int) (us ds : List Bool) (u d : Addr), HandC H1 p c → But p H H1 → H1 u = some (.lst (us.map V.bl)) → H1 d = some (.lst (ds.map V.bl)) → ds.length = us.length → 0 < us.length → us.length ≤ 12 →
        tl { nx := fun _ H' => Q .non H', rt := Q } [some (V.ref p), some (V.bl far), x2, some (V.int us.length), some (V.int sty), some (V.ref u), some (V.ref d), none, none, none, none] H1 := by
      refine ⟨_, (pss_cons (ps_if (PW.pt (pw_and (pt_cmpR op_eq (pv 4) pe_int (nomark _)) (pw_and1 (pt_cmpR op_gt (pv 3) pe_int (nomark _))))) (pss_one (ps_set (i := 5) sc_td.nd rfl (by walk_at "lv") (pe_lc (own := [("_law_k", 10)]) (g := gName 10) (tt := tYes) rfl sc_td.nd (pi_range1 (by rfl) N.range (pa_cons (pv 3) pa_nil)) (blkOk_by (N := N_td) (sc := defScope s_td) (by decide +kernel)) (fun _ _ _ _ _ => (pg_name (i := 10) sc_td.nd rfl (by walk_at "lv"))) (fun _ _ _ _ _ => pts_nil) (fun _ _ _ _ _ => (pe_ix (r := rIxL K) ix_list (pv 5) (pe_op op_mul (pe_op op_fdiv (pv 10) pe_int) pe_int) (fun _ _ => rfl)))))) pss_nil)
        d2), ?_⟩
      rintro H1 x2 sty us ds u d h1 b1 eu ed el m0 m1
      refine ⟨_, rfl, rfl, _, rfl, ite2 (fun q1 => ?_) (fun q1 => iteF (tail2 H1 x2 sty us ds u d h1 b1 eu ed el m0 m1))⟩
      refine ⟨_, rfl, _, _, rfl, rfl, _, rfl, ite2 (fun q2 => ?_) (fun q2 => tail2 H1 x2 sty us ds u d h1 b1 eu ed el m0 m1)⟩
      refine ⟨_, rfl, _, rfl, by omega, by omega, fun D hD => ?_⟩
      rw [show ((us.length : Int)).toNat = us.length by omega]
      refine lc_itF (G := fun _ => True) walk_range hD (fun x => ((List.range x).map fun k => us.getD ((0 + (k : Nat) : Int) / 2 * 2).toNat false).map V.bl) rfl (fun x hx => small1000 (by rw [List.length_map, List.length_map, List.length_range]; omega)) (fun _ _ => trivial) ?_ ?_ ?_ ?_ ?_
      · rintro x v H4 H5 hx e s ⟨rfl, rfl⟩
        refine ⟨rfl, _, rfl, _, rfl, _, _, rfl, rfl, ⟨by decide, by decide⟩, _, _, rfl, rfl, .inr ⟨by decide, by decide⟩, u, _, _, _, rfl, rfl, SqL.of (s _ _ eu), blI_get (i := (0 + (x : Int)) / 2 * 2) (by omega) (by omega), e, s, ?_⟩
        rw [List.range_succ, List.map_append, List.map_append]
        rfl
      · exact fun x H' Q Q' h q => h _ _ q
      · exact fun σ2 H2 Q1 Q2 h q => h _ _ q
      · rintro σ2 H4 Q1 Q2 h ⟨x1, h1, x2, h2, i, j, e1, e2, e3, i2, j2, e4, e5, e6, p', xs, ii, v, e7, e8, e9, e10, q⟩
        exact ⟨x1, h1, x2, h2, i, j, e1, e2, e3, i2, j2, e4, e5, e6, p', xs, ii, v, e7, e8, e9, e10, h _ _ q⟩
      · intro H4 e4 s4
        have hl : ((List.range us.length).map fun k => us.getD ((0 + (k : Nat) : Int) / 2 * 2).toNat false).length = us.length := by rw [List.length_map, List.length_range]
        have := tail2 H4 x2 sty _ ds D d (h1.same s4) (b1.trans (But.of s4)) e4 (s4 _ _ ed) (by rw [hl]; exact el) (by rw [hl]; exact m0) (by rw [hl]; exact m1)
        rw [hl] at this
        exact this
    refine ⟨_, (pss_cons (ps_set (i := 2) sc_td.nd rfl (by walk_at "lv") (pe_tup (pa_cons pe_int (pa_cons pe_int (pa_cons pe_int (pa_cons pe_int (pa_cons pe_int (pa_cons pe_int (pa_cons pe_int (pa_cons pe_int (pa_cons pe_int (pa_cons pe_int (pa_cons pe_int (pa_cons pe_int pa_nil))))))))))))))
        (pss_cons (ps_set (i := 3) sc_td.nd rfl (by walk_at "lv") (pe_ix ix_tup (pv 2) (pe_k GD hr (by rfl) pass0 (pa_cons (pv 0) (pa_cons pe_int pa_nil))) (fun _ _ => rfl)))
        (pss_cons (ps_set (i := 4) sc_td.nd rfl (by walk_at "lv") (pe_k GD hr (by rfl) pass0 (pa_cons (pv 0) (pa_cons pe_int pa_nil))))
        (pss_cons (ps_set (i := 5) sc_td.nd rfl (by walk_at "lv") (pe_lc (own := [("_law_k", 10)]) (g := gName 10) (tt := tYes) rfl sc_td.nd (pi_range1 (by rfl) N.range (pa_cons (pv 3) pa_nil)) (blkOk_by (N := N_td) (sc := defScope s_td) (by decide +kernel)) (fun _ _ _ _ _ => (pg_name (i := 10) sc_td.nd rfl (by walk_at "lv"))) (fun _ _ _ _ _ => pts_nil) (fun _ _ _ _ _ => (pe_cmpR op_eq (pe_k GD hr (by rfl) pass0 (pa_cons (pv 0) (pa_cons pe_int pa_nil))) pe_int (nomark _)))))
        (pss_cons (ps_set (i := 6) sc_td.nd rfl (by walk_at "lv") (pe_ifExp (pt_cmpR op_eq (pv 4) pe_int (nomark _)) (pe_callTy call_list_of (by rfl) N.list (by decide +kernel) (pa_cons (pv 5) pa_nil)) (pe_lc (own := [("_law_k", 10)]) (g := gName 10) (tt := tYes) rfl sc_td.nd (pi_range1 (by rfl) N.range (pa_cons (pv 3) pa_nil)) (blkOk_by (N := N_td) (sc := defScope s_td) (by decide +kernel)) (fun _ _ _ _ _ => (pg_name (i := 10) sc_td.nd rfl (by walk_at "lv"))) (fun _ _ _ _ _ => pts_nil) (fun _ _ _ _ _ => (pe_cmpR op_eq (pe_k GD hr (by rfl) pass0 (pa_cons (pv 0) (pa_cons pe_int pa_nil))) pe_int (nomark _))))))
        (pss_cons (ps_if (pt_cmpR op_eq (pv 4) pe_int (nomark _)) (pss_cons (ps_set (i := 5) sc_td.nd rfl (by walk_at "lv") (pe_op op_rep (pe_lst (pa_cons pe_bl pa_nil)) (pv 3))) (pss_one (ps_set (i := 6) sc_td.nd rfl (by walk_at "lv") (pe_op op_rep (pe_lst (pa_cons pe_bl pa_nil)) (pv 3))))) pss_nil)
        d1)))))), ?_⟩
    refine ⟨(by show 12 ≤ sizeLine; decide), fun t0 ht0 => ?_⟩
    have s0 := same_new (o := .tup [V.int 1, V.int 2, V.int 3, V.int 4, V.int 6, V.int 1, V.int 5, V.int 2, V.int 8, V.int 9, V.int 12, V.int 7]) (Same.refl H) ht0
    refine ⟨_, rfl, _, rfl, p, c, 12, rfl, hh.same s0, ⟨by decide, by decide⟩, fun r H1 r0 r1 h1 b1 => ?_⟩
    obtain ⟨m, em, m0, m1⟩ := sizes_at r0 r1
    refine ⟨t0, _, _, _, rfl, rfl, SqT.of (b1 _ _ (hh.ne ht0).1.symm upd_same), em, ?_⟩
    refine ⟨_, rfl, p, c, 4, rfl, h1, ⟨by decide, by decide⟩, fun sty H2 y0 y1 h2 b2 => ?_⟩
    have b02 := ((But.of s0).trans b1).trans b2
    dsimp only [gName, tSeq, tAsg]
    refine lc_draw (j := 3) (i := 10) (m := m) rfl (by omega) h2 (fun _ => rfl) (fun _ => rfl) fun u us H3 ul n3 eu h3 b3 => ?_
    have b03 := b02.trans b3
    -- the two sides are told: what the first if does
    have ul1 : (us.length : Int) = (m : Int) := by omega
    have go : ∀ (H4 : Hp) (ds : List Bool) (d : Addr), ds.length = m → HandC H4 p c → But p H H4 → H4 u = some (.lst (us.map V.bl)) → H4 d = some (.lst (ds.map V.bl)) →
        tIfS (tTest (tOp rEq (tVar 4) (tC (V.int 1)))) (tSeq (tAsg (tOp rRep (tLst (tCons (tC (V.bl false)) tNil)) (tVar 3)) (gName 5)) (tAsg (tOp rRep (tLst (tCons (tC (V.bl false)) tNil)) (tVar 3)) (gName 6))) tNext { nx := t1 { nx := fun _ H' => Q .non H', rt := Q }, rt := Q } [some (V.ref p), some (V.bl far), some (V.ref t0), some (V.int (m : Int)), some (V.int sty), some (V.ref u), some (V.ref d), none, none, none, none] H4 := by
      intro H4 ds d dl h4 b4 eu4 ed4
      refine ⟨_, rfl, rfl, _, rfl, ite2 (fun q => ?_) (fun q => ?_)⟩
      · have rl : ∀ k : Nat, (List.replicate k [V.bl false]).flatten = (List.replicate k false).map V.bl := fun k => by rw [rep_flat, List.map_replicate]
        refine ⟨(by show 1 ≤ sizeLine; decide), fun l1 hl1 => ?_⟩
        have s1 := same_new (o := .lst [V.bl false]) (Same.refl H4) hl1
        refine ⟨_, rfl, l1, _, _, rfl, rfl, upd_same, by omega, by omega, ?_, fun u' hu' => ?_⟩
        · show 1 * _ ≤ _
          rw [Nat.one_mul]
          exact Nat.le_of_lt (small1000 (by omega))
        rw [Int.toNat_natCast, rl] at *
        have s2 := same_new (o := .lst ((List.replicate m false).map V.bl)) s1 hu'
        refine ⟨(by show 1 ≤ sizeLine; decide), fun l2 hl2 => ?_⟩
        have s3 := same_new (o := .lst [V.bl false]) s2 hl2
        have hu2 : u' ≠ l2 := ne_of_none upd_same hl2
        refine ⟨_, rfl, l2, _, _, rfl, rfl, upd_same, by omega, by omega, ?_, fun d' hd' => ?_⟩
        · show 1 * _ ≤ _
          rw [Nat.one_mul]
          exact Nat.le_of_lt (small1000 (by omega))
        rw [Int.toNat_natCast, rl] at *
        have s4 := same_new (o := .lst ((List.replicate m false).map V.bl)) s3 hd'
        have hu3 : u' ≠ d' := ne_of_none (by rw [upd_ne hu2]; exact upd_same) hd'
        have ln : (List.replicate m false).length = m := List.length_replicate
        have := tail1 _ (some (V.ref t0)) sty (List.replicate m false) (List.replicate m false) u' d' (h4.same s4) (b4.trans (But.of s4)) (by rw [upd_ne hu3, upd_ne hu2]; exact upd_same) upd_same rfl (by rw [ln]; exact m0) (by rw [ln]; exact m1)
        rw [ln] at this
        exact this
      · have := tail1 H4 (some (V.ref t0)) sty us ds u d h4 b4 eu4 ed4 (by omega) (by omega) (by omega)
        rw [ul1] at this
        exact this
    refine ⟨_, rfl, rfl, _, rfl, ite2 (fun q => ?_) (fun q => ?_)⟩
    · refine ⟨_, rfl, u, _, rfl, .inl (SqL.of eu), fun d hd => ?_⟩
      have s4 := same_new (o := .lst (us.map V.bl)) (Same.refl H3) hd
      exact go _ us d ul (h3.same s4) (b03.trans (But.of s4)) (s4 _ _ eu) upd_same
    · refine lc_draw (j := 3) (i := 10) (m := m) rfl (by omega) h3 (fun _ => rfl) (fun _ => rfl) fun d ds H4 dl n4 ed h4 b4 => ?_
      exact go H4 ds d dl h4 (b03.trans b4) (b4 _ _ (h3.neb eu) eu) ed
end
end My
set_option Elab.async false
set_option linter.all false
set_option maxRecDepth 100000
set_option maxHeartbeats 8000000
namespace My
open PySem PySem.Spec PyProof.Rows L2
local macro_rules | `(tactic| walk_at "lv") => `(tactic| first | exact Or.inl rfl | exact Or.inr rfl)
theorem rows_ok {T : Tl} {lo hi : Int} {d : Nat} : RowsOk lo hi (insOf T lo hi) d (resOf T.U d) (resOf T.D d) := by
  refine ⟨fil_asc _ _ _, fun n hn => ?_, fil_asc _ _ _, fun n hn => ?_, fil_asc _ _ _, fun n hn => ?_⟩
  · have := (mem_fil.mp hn).1
    omega
  · have := (mem_fil.mp hn).1
    omega
  · have := (mem_fil.mp hn).1
    omega
theorem mem_resOf {f : Int → Bool} {d : Nat} (hp : Per f d) (hd : 0 < d) (n : Int) : decide (n % (d : Int) ∈ resOf f d) = f n := by
  have k0 := Int.emod_nonneg n (by omega : (d : Int) ≠ 0)
  have k1 := Int.emod_lt_of_pos n (by omega : (0 : Int) < (d : Int))
  rw [← hp.mod n]
  cases e : f (n % (d : Int)) with
  | true => exact decide_eq_true (mem_fil.mpr ⟨⟨k0, by omega⟩, e⟩)
  | false => exact decide_eq_false fun z => by have := (mem_fil.mp z).2; rw [e] at this; cases this
theorem has_of {T : Tl} {lo hi : Int} {d : Nat} (fm : IsForm T.has T.U T.D lo hi d) (n : Int) : lotHas lo hi (insOf T lo hi) d (resOf T.U d) (resOf T.D d) n = T.has n := by
  unfold lotHas
  have hd := fm.least.pos
  by_cases h1 : hi < n
  · rw [if_pos h1, mem_resOf fm.least.pu hd, fm.above h1]
  · rw [if_neg h1]
    by_cases h2 : n < lo
    · rw [if_pos h2, mem_resOf fm.least.pd hd, fm.below h2]
    · rw [if_neg h2]
      cases e : T.has n with
      | true => exact decide_eq_true (mem_fil.mpr ⟨⟨by omega, by omega⟩, e⟩)
      | false => exact decide_eq_false fun z => by have := (mem_fil.mp z).2; rw [e] at this; cases this
theorem empty_fil {P : Int → Bool} {lo : Int} {n : Nat} (h : ∀ x, P x = false) : (fil P lo n).isEmpty = true := by
  cases e : fil P lo n with
  | nil => rfl
  | cons v r =>
    have := (mem_fil.mp (show v ∈ fil P lo n by rw [e]; exact List.mem_cons_self)).2
    rw [h v] at this
    cases this
theorem fil_empty {P : Int → Bool} {lo : Int} {n : Nat} (h : (fil P lo n).isEmpty = true) : ∀ x, lo ≤ x → x < lo + n → P x = false := fil_nil (List.isEmpty_iff.mp h)
theorem any_false {bs : List Bool} : bs.any id = false ↔ ∀ k, bs.getD k false = false := by
  constructor
  · intro h k; rw [List.getD_eq_getElem?_getD]
    cases e : bs[k]? with
    | none => rfl
    | some b =>
      cases b with
      | false => rfl
      | true =>
        have := List.any_eq_false.mp h true (List.mem_of_getElem? e)
        exact absurd rfl this
  · intro h
    refine List.any_eq_false.mpr fun b hb => ?_
    obtain ⟨k, hk, rfl⟩ := List.mem_iff_getElem.mp hb
    have := h k
    rw [List.getD_eq_getElem?_getD, List.getElem?_eq_getElem hk] at this
    show ¬ bs[k] = true
    have this : bs[k] = false := this
    rw [this]
    exact Bool.false_ne_true
theorem cyc_false {l : List Bool} (hl : 0 < l.length) : (∀ n, cyc l n = false) ↔ l.any id = false := by
  rw [any_false]
  constructor
  · intro h k
    rcases Nat.lt_or_ge k l.length with q | q
    · rw [← cyc_lt q]
      exact h _
    · rw [List.getD_eq_getElem?_getD, List.getElem?_eq_none q]
      rfl
  · intro h n
    exact h _
theorem bare_of {T : Tl} (ok : T.Ok) {lo hi : Int} {d : Nat} (fm : IsForm T.has T.U T.D lo hi d) :
    ((insOf T lo hi).isEmpty && ((resOf T.U d).isEmpty && (resOf T.D d).isEmpty)) = (!(T.cs.any id) && (!(T.us.any id) && !(T.ds.any id))) := by
  have hd := fm.least.pos
  have per : ∀ f : Int → Bool, Per f d → ((resOf f d).isEmpty = true ↔ ∀ n, f n = false) := fun f hp => by
    constructor
    · intro h n
      have k0 := Int.emod_nonneg n (by omega : (d : Int) ≠ 0)
      have k1 := Int.emod_lt_of_pos n (by omega : (0 : Int) < (d : Int))
      rw [← hp.mod n]
      exact fil_empty h _ k0 (by omega)
    · intro h
      exact empty_fil h
  have hh : T.hi = T.lo + T.cs.length - 1 := rfl
  rw [Bool.eq_iff_iff, Bool.and_eq_true, Bool.and_eq_true, Bool.and_eq_true, Bool.and_eq_true, per _ fm.least.pu, per _ fm.least.pd, Bool.not_eq_true', Bool.not_eq_true', Bool.not_eq_true', ← cyc_false (l := T.us) ok.pos, ← cyc_false (l := T.ds) (by rw [ok.len]; exact ok.pos)]
  constructor
  · rintro ⟨h1, h2, h3⟩
    have hz : ∀ n, T.has n = false := fun n => by
      rcases Int.lt_or_le hi n with q | q
      · rw [fm.above q, h2]
      · rcases Int.lt_or_le n lo with q2 | q2
        · rw [fm.below q2, h3]
        · exact fil_empty h1 n q2 (by omega)
    refine ⟨any_false.mpr fun k => ?_, h2, h3⟩
    rcases Nat.lt_or_ge k T.cs.length with q | q
    · have := hz (T.lo + (k : Int))
      rw [Tl.core (by omega) (by omega), show (T.lo + (k : Int) - T.lo).toNat = k by omega] at this
      exact this
    · rw [List.getD_eq_getElem?_getD, List.getElem?_eq_none q]
      rfl
  · rintro ⟨h1, h2, h3⟩
    refine ⟨empty_fil fun n => ?_, h2, h3⟩
    rcases Int.lt_or_le n T.lo with q | q
    · rw [Tl.below q]
      exact h3 n
    · rcases Int.lt_or_le T.hi n with q2 | q2
      · rw [Tl.above q2]
        exact h2 n
      · rw [Tl.core q q2]
        exact any_false.mp h1 _
theorem mem_cIns {T : Tl} {x : Int} : x ∈ cIns T ↔ (T.lo ≤ x ∧ x ≤ T.hi) ∧ T.cs.getD (x - T.lo).toNat false = true := by
  have hh : T.hi = T.lo + T.cs.length - 1 := rfl
  unfold cIns
  rw [List.mem_map]
  constructor
  · rintro ⟨k, hk, rfl⟩
    have := mem_res.mp hk
    refine ⟨by omega, ?_⟩
    rw [show (T.lo + k - T.lo).toNat = k.toNat by omega]
    exact this.2
  · rintro ⟨h1, h2⟩
    exact ⟨x - T.lo, mem_res.mpr ⟨by omega, h2⟩, by omega⟩
theorem dec_iff {p : Prop} [Decidable p] {b : Bool} (h : p ↔ b = true) : b = decide p := by
  cases b with
  | true => exact (decide_eq_true (h.mpr rfl)).symm
  | false => exact (decide_eq_false fun z => by have := h.mp z; cases this).symm
theorem told_parts {T : Tl} (ok : T.Ok) {ins us ds : List Int} (p1 : ins.Perm (cIns T)) (p2 : us.Perm (res T.us)) (p3 : ds.Perm (res T.ds)) : Told T ins us ds := by
  have hh : T.hi = T.lo + T.cs.length - 1 := rfl
  refine ⟨fun n hn => (mem_cIns.mp (p1.mem_iff.mp hn)).1, fun k hk => dec_iff ?_, fun n hn => ?_, fun k hk => dec_iff ?_, fun n hn => ?_, fun k hk => dec_iff ?_⟩
  · rw [p1.mem_iff, mem_cIns, show (T.lo + (k : Int) - T.lo).toNat = k by omega]
    exact ⟨fun h => h.2, fun h => ⟨by omega, h⟩⟩
  · have := (mem_res.mp (p2.mem_iff.mp hn)).1
    omega
  · rw [p2.mem_iff, mem_res, show (0 + (k : Int)).toNat = k by omega]
    exact ⟨fun h => h.2, fun h => ⟨by omega, h⟩⟩
  · have := (mem_res.mp (p3.mem_iff.mp hn)).1
    rw [ok.len] at this
    omega
  · rw [p3.mem_iff, mem_res, show (0 + (k : Int)).toNat = k by omega]
    exact ⟨fun h => h.2, fun h => ⟨by rw [ok.len]; omega, h⟩⟩
theorem cIns_nodup (T : Tl) : (cIns T).Nodup := (fil_nodup _ _ _).map _ fun a b h z => h (by omega)
theorem parts_lens {T : Tl} : (cIns T).length ≤ T.cs.length ∧ (res T.us).length ≤ T.us.length ∧ (res T.ds).length ≤ T.ds.length := by
  refine ⟨?_, fil_len _ _ _, fil_len _ _ _⟩
  unfold cIns
  rw [List.length_map]
  exact fil_len _ _ _
def Tl.flip (T : Tl) (f : Nat) : Tl := ⟨T.lo, T.cs.set f (!T.cs.getD f false), T.us, T.ds⟩
theorem flip_has {T : Tl} {f : Nat} (hf : f < T.cs.length) : (T.flip f).has (T.lo + (f : Int)) ≠ T.has (T.lo + (f : Int)) := by
  have hh : T.hi = T.lo + T.cs.length - 1 := rfl
  have hh2 : (T.flip f).hi = T.hi := by
    show T.lo + ((T.cs.set f (!T.cs.getD f false)).length : Int) - 1 = _
    rw [List.length_set]
    rfl
  rw [Tl.core (T := T.flip f) (by show T.lo ≤ _; omega) (by rw [hh2]; omega), Tl.core (by omega) (by omega)]
  show (T.cs.set f (!T.cs.getD f false)).getD (T.lo + (f : Int) - T.lo).toNat false ≠ T.cs.getD (T.lo + (f : Int) - T.lo).toNat false
  rw [show (T.lo + (f : Int) - T.lo).toNat = f by omega, List.getD_eq_getElem?_getD, List.getElem?_set, if_pos rfl, if_pos hf]
  show (!T.cs.getD f false) ≠ _
  cases T.cs.getD f false <;> decide
theorem lotEq_all {lo hi lo' hi' m m' : Int} {ins us ds ins' us' ds' : List Int} (h : lotEq lo hi ins m us ds lo' hi' ins' m' us' ds' = true) : lo = lo' ∧ hi = hi' ∧ ins = ins' ∧ m = m' ∧ us = us' ∧ ds = ds' := by
  unfold lotEq at h
  simpa using h
theorem lotEq_self {lo hi m : Int} {ins us ds : List Int} : lotEq lo hi ins m us ds lo hi ins m us ds = true := by
  unfold lotEq
  simp
/-! ### what draws leave -/
theorem HandC.np {H : Hp} {p c x : Addr} {o : HO} (h : HandC H p c) (e : H x = some o) (ho : ∀ a i r t, o ≠ .lst [.ref a, .int i, .int r, .int t]) : x ≠ p := by
  obtain ⟨cs, i, r, t, e1, _, _⟩ := h
  exact ne_of e e1 (ho _ _ _ _)
theorem TellAt.but {H H' : Hp} {p c t c' u d : Addr} {T : Tl} (hh : HandC H p c) (b : But p H H') (h : TellAt H t T c' u d) : TellAt H' t T c' u d :=
  ⟨b _ _ (hh.np h.t fun _ _ _ _ z => by cases z) h.t, ⟨b _ _ (hh.neb h.l.cs) h.l.cs, b _ _ (hh.neb h.l.us) h.l.us, b _ _ (hh.neb h.l.ds) h.l.ds⟩⟩
theorem LotAt.but {H H' : Hp} {p c C l : Addr} {lo hi : Int} {ins us ds : List Int} {m : Nat} (hh : HandC H p c) (b : But p H H') (h : LotAt C H l lo hi ins m us ds) : LotAt C H' l lo hi ins m us ds := by
  obtain ⟨dx, a1, a2, a3, h1, h2, h3, h4⟩ := h
  exact ⟨dx, a1, a2, a3, b _ _ (hh.np h1 fun _ _ _ _ z => by cases z) h1, b _ _ (hh.np h2 fun _ _ _ _ z => by cases z) h2, b _ _ (hh.np h3 fun _ _ _ _ z => by cases z) h3, b _ _ (hh.np h4 fun _ _ _ _ z => by cases z) h4⟩
theorem FormAt.but {H H' : Hp} {p c q : Addr} {lo hi : Int} {ins us ds : List Int} {m : Nat} (hh : HandC H p c) (b : But p H H') (h : FormAt H q lo hi ins m us ds) : FormAt H' q lo hi ins m us ds := by
  obtain ⟨a1, a2, a3, h1, h2, h3, h4⟩ := h
  exact ⟨a1, a2, a3, b _ _ (hh.np h1 fun _ _ _ _ z => by cases z) h1, b _ _ (hh.np h2 fun _ _ _ _ z => by cases z) h2, b _ _ (hh.np h3 fun _ _ _ _ z => by cases z) h3, b _ _ (hh.np h4 fun _ _ _ _ z => by cases z) h4⟩
end My
set_option linter.all false
namespace My
/-! ### a lot's data as a telling; moved, turned -/
def tlOf (lo : Int) (n : Nat) (xs : List Int) (m : Nat) (us ds : List Int) : Tl :=
  ⟨lo, (List.range n).map fun (k : Nat) => decide (lo + (k : Int) ∈ xs), (List.range m).map fun (k : Nat) => decide ((k : Int) ∈ us), (List.range m).map fun (k : Nat) => decide ((k : Int) ∈ ds)⟩
theorem getD_rng {f : Nat → Bool} {n k : Nat} (h : k < n) : ((List.range n).map f).getD k false = f k := by
  rw [List.getD_eq_getElem?_getD, List.getElem?_map, List.getElem?_range h]; rfl
theorem cyc_rng {f : Nat → Bool} {m : Nat} (hm : 0 < m) (x : Int) : cyc ((List.range m).map f) x = f (x % (m : Int)).toNat := by
  unfold cyc
  have k1 := Int.emod_lt_of_pos x (by omega : (0 : Int) < (m : Int))
  have k0 := Int.emod_nonneg x (by omega : (m : Int) ≠ 0)
  rw [List.length_map, List.length_range, getD_rng (by omega)]
section
variable {lo : Int} {n m : Nat} {xs us ds : List Int}
theorem tlOf_ok (hm : 0 < m) : (tlOf lo n xs m us ds).Ok := ⟨by show ((List.range m).map _).length = ((List.range m).map _).length; simp, by show 0 < ((List.range m).map _).length; simpa using hm⟩
theorem tlOf_m : (tlOf lo n xs m us ds).us.length = m := by show ((List.range m).map _).length = m; simp
theorem tlOf_c : (tlOf lo n xs m us ds).cs.length = n := by show ((List.range n).map _).length = n; simp
theorem tlOf_hi : (tlOf lo n xs m us ds).hi = lo + n - 1 := by
  show lo + (((List.range n).map _).length : Int) - 1 = _
  simp
theorem tlOf_U (hm : 0 < m) (x : Int) : (tlOf lo n xs m us ds).U x = decide (x % (m : Int) ∈ us) := by
  have k0 := Int.emod_nonneg x (by omega : (m : Int) ≠ 0)
  show cyc _ x = _
  refine (cyc_rng hm x).trans ?_
  rw [Int.toNat_of_nonneg k0]
theorem tlOf_D (hm : 0 < m) (x : Int) : (tlOf lo n xs m us ds).D x = decide (x % (m : Int) ∈ ds) := by
  have k0 := Int.emod_nonneg x (by omega : (m : Int) ≠ 0)
  show cyc _ x = _
  refine (cyc_rng hm x).trans ?_
  rw [Int.toNat_of_nonneg k0]
theorem tlOf_has (hm : 0 < m) (x : Int) : (tlOf lo n xs m us ds).has x = lotHas lo (lo + n - 1) xs m us ds x := by
  unfold Tl.has lotHas
  rw [tlOf_hi, tlOf_U hm, tlOf_D hm]
  show (if x < lo then _ else _) = _
  by_cases h1 : x < lo
  · rw [if_pos h1, if_neg (by omega), if_pos h1]
  · rw [if_neg h1]
    by_cases h2 : lo + (n : Int) - 1 < x
    · rw [if_pos h2, if_pos h2]
    · rw [if_neg h2, if_neg h2, if_neg h1]
      show ((List.range n).map _).getD (x - lo).toNat false = _
      rw [getD_rng (by omega), show lo + ((x - lo).toNat : Int) = x by omega]
theorem tlOf_told (hx : ∀ x ∈ xs, lo ≤ x ∧ x ≤ lo + n - 1) (hu : ∀ x ∈ us, 0 ≤ x ∧ x < m) (hd : ∀ x ∈ ds, 0 ≤ x ∧ x < m) : Told (tlOf lo n xs m us ds) xs us ds := by
  refine ⟨fun x h => ?_, fun k h => ?_, fun x h => ?_, fun k h => ?_, fun x h => ?_, fun k h => ?_⟩
  · rw [tlOf_hi]; exact hx x h
  · rw [tlOf_c] at h
    exact getD_rng h
  · rw [tlOf_m]
    have := hu x h
    omega
  · rw [tlOf_m] at h
    refine (getD_rng h).trans ?_
    rw [Int.zero_add]
  · rw [tlOf_m]
    have := hd x h
    omega
  · rw [tlOf_m] at h
    refine (getD_rng h).trans ?_
    rw [Int.zero_add]
end
theorem dec_cong {p q : Prop} [Decidable p] [Decidable q] (h : p ↔ q) : decide p = decide q := by
  by_cases hq : q
  · rw [decide_eq_true (h.mpr hq), decide_eq_true hq]
  · rw [decide_eq_false (fun z => hq (h.mp z)), decide_eq_false hq]
/-- rests moved on -/
theorem mem_shift {us : List Int} {m : Nat} (hu : ∀ r ∈ us, 0 ≤ r ∧ r < m) (b x : Int) : x % (m : Int) ∈ us.map (fun r => (r + b) % (m : Int)) ↔ (x - b) % (m : Int) ∈ us := by
  rw [List.mem_map]
  constructor
  · rintro ⟨r, hr, e⟩
    have e2 : r % (m : Int) = (x - b) % (m : Int) := Int.emod_eq_emod_iff_emod_sub_eq_zero.mpr (by
      have := Int.emod_eq_emod_iff_emod_sub_eq_zero.mp e
      rw [show r - (x - b) = r + b - x by omega]; exact this)
    rw [← e2, Int.emod_eq_of_lt (hu r hr).1 (hu r hr).2]
    exact hr
  · intro h
    refine ⟨_, h, ?_⟩
    rw [Int.emod_add_emod, show x - b + b = x by omega]
/-- rests turned -/
theorem mem_turn {us : List Int} {m : Nat} (hu : ∀ r ∈ us, 0 ≤ r ∧ r < m) (x : Int) : x % (m : Int) ∈ us.map (fun r => (-r) % (m : Int)) ↔ (-x) % (m : Int) ∈ us := by
  rw [List.mem_map]
  constructor
  · rintro ⟨r, hr, e⟩
    have e2 : r % (m : Int) = (-x) % (m : Int) := Int.emod_eq_emod_iff_emod_sub_eq_zero.mpr (by
      have := Int.emod_eq_emod_iff_emod_sub_eq_zero.mp e.symm
      rw [show r - -x = x - -r by omega]; exact this)
    rw [← e2, Int.emod_eq_of_lt (hu r hr).1 (hu r hr).2]
    exact hr
  · intro h
    refine ⟨_, h, ?_⟩
    refine Int.emod_eq_emod_iff_emod_sub_eq_zero.mpr ?_
    have := Int.emod_add_mul_ediv (-x) (m : Int)
    rw [show -((-x) % (m : Int)) - x = (m : Int) * ((-x) / (m : Int)) by omega]
    exact Int.mul_emod_right _ _
section
variable {lo hi : Int} {m : Nat} {xs us ds : List Int}
theorem lot_moved (hu : ∀ r ∈ us, 0 ≤ r ∧ r < m) (hd : ∀ r ∈ ds, 0 ≤ r ∧ r < m) (b x : Int) :
    lotHas (lo + b) (hi + b) (xs.map (· + b)) m (us.map fun r => (r + b) % (m : Int)) (ds.map fun r => (r + b) % (m : Int)) x = lotHas lo hi xs m us ds (x - b) := by
  unfold lotHas
  rw [dec_cong (mem_shift hu b x), dec_cong (mem_shift hd b x)]
  by_cases h1 : hi + b < x
  · rw [if_pos h1, if_pos (by omega)]
  · rw [if_neg h1, if_neg (by omega : ¬ hi < x - b)]
    by_cases h2 : x < lo + b
    · rw [if_pos h2, if_pos (by omega)]
    · rw [if_neg h2, if_neg (by omega : ¬ x - b < lo)]
      refine dec_cong ⟨fun h => ?_, fun h => List.mem_map.mpr ⟨_, h, by omega⟩⟩
      obtain ⟨y, hy, e⟩ := List.mem_map.mp h
      rw [show x - b = y by omega]
      exact hy
theorem lot_turned (hs : lo ≤ hi + 1) (hu : ∀ r ∈ us, 0 ≤ r ∧ r < m) (hd : ∀ r ∈ ds, 0 ≤ r ∧ r < m) (x : Int) :
    lotHas (-hi) (-lo) (xs.map (-·)) m (ds.map fun r => (-r) % (m : Int)) (us.map fun r => (-r) % (m : Int)) x = lotHas lo hi xs m us ds (-x) := by
  unfold lotHas
  rw [dec_cong (mem_turn hu x), dec_cong (mem_turn hd x)]
  by_cases h1 : -lo < x
  · rw [if_pos h1, if_neg (by omega : ¬ hi < -x), if_pos (by omega)]
  · rw [if_neg h1]
    by_cases h2 : x < -hi
    · rw [if_pos h2, if_pos (by omega)]
    · rw [if_neg h2, if_neg (by omega : ¬ hi < -x), if_neg (by omega : ¬ -x < lo)]
      refine dec_cong ⟨fun h => ?_, fun h => List.mem_map.mpr ⟨_, h, by omega⟩⟩
      obtain ⟨y, hy, e⟩ := List.mem_map.mp h
      rw [show -x = y by omega]
      exact hy
end
/-- the law's own telling, moved -/
def Tl.mv (T : Tl) (b : Int) : Tl := ⟨T.lo + b, T.cs, (List.range T.us.length).map fun (k : Nat) => T.U ((k : Int) - b), (List.range T.us.length).map fun (k : Nat) => T.D ((k : Int) - b)⟩
def Tl.tn (T : Tl) : Tl := ⟨-T.hi, (List.range T.cs.length).map fun (k : Nat) => T.cs.getD (T.cs.length - 1 - k) false, (List.range T.us.length).map fun (k : Nat) => T.D (-(k : Int)), (List.range T.us.length).map fun (k : Nat) => T.U (-(k : Int))⟩
theorem per_mod {f : Int → Bool} {m : Nat} (hp : Per f m) (hm : 0 < m) (g : Int → Int) (x : Int) (hg : (g (x % (m : Int))) % (m : Int) = g x % (m : Int)) : f (g ((x % (m : Int)).toNat : Int)) = f (g x) := by
  rw [Int.toNat_of_nonneg (Int.emod_nonneg x (by omega : (m : Int) ≠ 0))]
  exact hp.cong hg
theorem mv_U {T : Tl} (ok : T.Ok) (b x : Int) : (T.mv b).U x = T.U (x - b) := by
  refine (cyc_rng ok.pos x).trans (per_mod ok.pu ok.pos (· - b) x ?_)
  show (x % (T.us.length : Int) - b) % (T.us.length : Int) = (x - b) % (T.us.length : Int)
  rw [Int.sub_emod, Int.emod_emod, ← Int.sub_emod]
theorem mv_D {T : Tl} (ok : T.Ok) (b x : Int) : (T.mv b).D x = T.D (x - b) := by
  refine (cyc_rng ok.pos x).trans (per_mod ok.pd ok.pos (· - b) x ?_)
  show (x % (T.us.length : Int) - b) % (T.us.length : Int) = (x - b) % (T.us.length : Int)
  rw [Int.sub_emod, Int.emod_emod, ← Int.sub_emod]
theorem neg_mod (x : Int) (m : Nat) : (-(x % (m : Int))) % (m : Int) = (-x) % (m : Int) := by
  rw [← Int.zero_sub, Int.sub_emod, Int.emod_emod, ← Int.sub_emod, Int.zero_sub]
theorem tn_U {T : Tl} (ok : T.Ok) (x : Int) : T.tn.U x = T.D (-x) := (cyc_rng ok.pos x).trans (per_mod ok.pd ok.pos (-·) x (neg_mod x _))
theorem tn_D {T : Tl} (ok : T.Ok) (x : Int) : T.tn.D x = T.U (-x) := (cyc_rng ok.pos x).trans (per_mod ok.pu ok.pos (-·) x (neg_mod x _))
theorem mv_has {T : Tl} (ok : T.Ok) (b x : Int) : (T.mv b).has x = T.has (x - b) := by
  unfold Tl.has
  rw [mv_U ok, mv_D ok]
  show (if x < T.lo + b then _ else if T.lo + b + T.cs.length - 1 < x then _ else T.cs.getD (x - (T.lo + b)).toNat false) = if x - b < T.lo then _ else if T.lo + T.cs.length - 1 < x - b then _ else _
  by_cases h1 : x < T.lo + b
  · rw [if_pos h1, if_pos (by omega)]
  · rw [if_neg h1, if_neg (by omega : ¬ x - b < T.lo)]
    by_cases h2 : T.lo + b + T.cs.length - 1 < x
    · rw [if_pos h2, if_pos (by omega)]
    · rw [if_neg h2, if_neg (by omega : ¬ T.lo + T.cs.length - 1 < x - b), show x - (T.lo + b) = x - b - T.lo by omega]
theorem tn_has {T : Tl} (ok : T.Ok) (x : Int) : T.tn.has x = T.has (-x) := by
  unfold Tl.has
  rw [tn_U ok, tn_D ok]
  have e1 : T.tn.cs.length = T.cs.length := by show ((List.range T.cs.length).map _).length = _; simp
  have e2 : T.tn.hi = -T.lo := by
    show -T.hi + (T.tn.cs.length : Int) - 1 = _
    rw [e1]
    show -(T.lo + T.cs.length - 1) + (T.cs.length : Int) - 1 = _
    omega
  rw [e2]
  have e3 : T.hi = T.lo + T.cs.length - 1 := rfl
  show (if x < -T.hi then _ else if -T.lo < x then _ else T.tn.cs.getD (x - -T.hi).toNat false) = _
  by_cases h1 : x < -T.hi
  · rw [if_pos h1, if_neg (by omega : ¬ -x < T.lo), if_pos (by omega)]
  · rw [if_neg h1]
    by_cases h2 : -T.lo < x
    · rw [if_pos h2, if_pos (by omega)]
    · rw [if_neg h2, if_neg (by omega : ¬ -x < T.lo), if_neg (by omega : ¬ T.hi < -x)]
      refine (getD_rng (by omega)).trans ?_
      rw [show T.cs.length - 1 - (x - -T.hi).toNat = (-x - T.lo).toNat by omega]
end My
set_option Elab.async false
set_option linter.all false
set_option maxRecDepth 100000
set_option maxHeartbeats 8000000
namespace My
open PySem PySem.Spec PyProof.Rows L2
local macro_rules | `(tactic| walk_at "lv") => `(tactic| first | exact Or.inl rfl | exact Or.inr rfl)
/-! ### y = {k: v for ..} -/
section
variable {X : L2.Cx}
theorem sw_dict {kx vx : Expr} {gs : List Comprehension} {sc : Scope} {pos py : Pos} {y : Str} {l : Nat} {env : Env} (h1 : env.scope.kind = .function) (h2 : env.scope.names.lookup y = some .local) (h3 : (py.line == pos.line) = true)
    (h4 : (sc.names.any fun (n, k) => n == y && (k == .local || k == .cell)) = false) : swapsWith (.DictComp kx vx gs sc pos) (some (.Name y py)) l env = pure true := by
  have b1 : env.kindOf y = some .local := h2
  have b2 : env.blockKind = .function := by unfold Env.blockKind; rw [h1]; rfl
  unfold swapsWith
  simp only [b1, b2, h4, Expr.pos, h3]
  rfl
abbrev Blk (X : L2.Cx) (sc : Scope) (p : L2.Cx → Prop) : Prop := ∀ (s : Shared) (H : Hp) (C : Addr) (cl : List (Str × Addr)) (fp : List Addr), p (X.blk s H sc (compEnvC sc cl C X.env) fp)
theorem ps_setDc {i : Nat} {y : Str} {py : Pos} {kx vx tg iter : Expr} {ifs : List Expr} {sc : Scope} {own : List (Str × Nat)} {pos spos : Pos} {wi : TI} {g : TG} {tt : TT} {tk tv : TE} (c1 : X.calm = true) (c2 : X.N.Nodup) (c3 : X.N[i]? = some y) (c4 : X.env.scope.names.lookup y = some .local)
    (sw : swapsWith (.DictComp kx vx [⟨tg, iter, ifs, 0⟩] sc pos) (some (.Name y py)) spos.line X.env = pure true) (c5 : PI X tg iter wi) (c6 : BlkOk X.N X.env.scope sc own)
    (d1 : Blk X sc fun Y => PG Y tg g) (d2 : Blk X sc fun Y => PTs Y ifs tt) (d3 : Blk X sc fun Y => PE Y kx tk) (d4 : Blk X sc fun Y => PE Y vx tv) (c7 : ∀ x, foldedSetIterable iter X.env x = pure x := by intro _; rfl) :
    PS X (.Assign [.Name y py] (.DictComp kx vx [⟨tg, iter, ifs, 0⟩] sc pos) spos) (tAsg (tDc wi g tt tk tv (own.map (·.2))) (gName i)) := by
  refine ⟨fun pns s σ H D I h => ?_⟩
  rw [exec_Assign_Name_used _ _ _ _ sw]; refine wpAny_bind (wpAny_standAt (wpAny_bind ?_))
  show wpAny _ X.A (do let _ ← comprehension (.DictComp kx vx [⟨tg, iter, ifs, 0⟩] sc pos) sc X.env (firstIterPos [⟨tg, iter, ifs, 0⟩] pos) newDict false (eval iter X.env) (some (assign (.Name y py) X.env))) _ _ s
  have h' : tDc wi g tt tk tv (own.map (·.2)) σ H (fun x H1 => gName i x σ H1 D.nx) := h
  refine wpAny_bind (thn (dc_core (Qf := fun _ s' => SP X pns D .next s') c1 c2 I c5 c6 d1 d2 d3 d4 c7 h' fun L C s' m H' I' q hn f => ?_) fun _ s' hq => wpAny_pure (wpAny_pure hq))
  show wpAny _ _ (assign (.Name y py) X.env (.ref L)) _ _ _; refine wpAny_assign_Name (store_ok2 (v := V.ref L) I' c2 c3 (.inl c4) rfl (fun s2 I2 ⟨a, sb, ha⟩ => ?_) (.inr c4))
  have ⟨f0, f1, f2, f3, f4, f5⟩ := f
  have na : C ≠ a := ha.elim (fun z => by rw [z]; exact f1) fun z e => f4 y a z e.symm
  exact ⟨m, hn.sameBut sb na, fun h3 sb3 => ⟨_, H', I2.turned (t' := s2.toks) (fun b o nb e => (sb3.2 b nb).trans e) f0 f1 f3 f4 f5, q⟩⟩
end
end My
set_option Elab.async false
set_option linter.all false
set_option maxRecDepth 100000
set_option maxHeartbeats 8000000
namespace My
open PySem PySem.Spec PyProof.Rows L2
local macro_rules | `(tactic| walk_at "lv") => `(tactic| first | exact Or.inl rfl | exact Or.inr rfl)
/-! ### try with several clauses `except C as n`, `except (C, D) as n` -/
section
variable {X : L2.Cx}
/-- what a clause's class expression answers -/
def Test (X : L2.Cx) (t : Expr) (cs : List Value) : Prop :=
  ∀ {pins : List (Addr × Obj)} {σ : L2.St} {H : Hp} {s : Shared} {a : Addr} {oe : Obj} {cls : Value} {b : Bool} {Q : Bool → Shared → Prop} {E : Value → Shared → Prop},
    Inv (X.suite a ((a, oe) :: (X.pn ++ pins))) [] σ H s → s.heap.get? a = some oe → oe.cls = cls → PySem.W.exmAny X.K cls cs = some b →
    (∀ h', (∀ q o, s.heap.get? q = some o → h'.get? q = some o) → Q b { s with heap := h' }) →
    wpAny (model X.prog X.w) (X.A.mark (some (.ref a))) (eval t X.env) (fun c s1 => wpAny (model X.prog X.w) (X.A.mark (some (.ref a))) (excMatches (.ref a) c) Q E s1) E s
theorem looks_of {M : Model} {h : Heap} {a : Addr} {oe : Obj} {cls : Value} (he : h.get? a = some oe) (hc : oe.cls = cls) : PySem.W.Looks M h (typeOf (.ref a)) cls :=
  fun A Q E s k q => wpAny_typeOf_ref (k _ _ he) (by rw [hc]; exact q)
theorem name_at {pins : List (Addr × Obj)} {σ : L2.St} {H : Hp} {s : Shared} {a : Addr} {oe : Obj} {x : Str} {c : Value} {p : Pos} (I : Inv (X.suite a ((a, oe) :: (X.pn ++ pins))) [] σ H s) (hc : Names X x c)
    {Q : Value → Shared → Prop} {E : Value → Shared → Prop} (q : Q c s) : wpAny (model X.prog X.w) (X.A.mark (some (.ref a))) (eval (.Name x p) X.env) Q E s := by
  rcases hc with ⟨hg, hdbg, m | ⟨m, hv, hnn⟩⟩
  · exact (ld_glob (X := X.suite a ((a, oe) :: (X.pn ++ pins))) I hg m q hdbg)
  · exact (ld_blt (X := X.suite a ((a, oe) :: (X.pn ++ pins))) I hg m hv q hnn hdbg)
theorem test1 {x : Str} {c : Value} {p : Pos} (hc : Names X x c) : Test X (.Name x p) [c] := by
  intro pins σ H s a oe cls b Q E I he hcl hx q
  obtain ⟨b1, d1, x1, y1, rfl⟩ := PySem.W.exmAny_cons hx
  cases (show some false = some d1 from y1)
  refine name_at I hc ?_
  refine (PySem.W.exm_one (M := model X.prog X.w) I.kIn (looks_of he hcl) x1).here ?_
  rw [Bool.or_false] at q
  exact q s.heap fun _ _ e => e
theorem test2 {x y : Str} {c d : Value} {p1 p2 p : Pos} {k : Nat} (hc : Names X x c) (hd : Names X y d) : Test X (.Tuple [.Name x p1, .Name y p2] k p) [c, d] := by
  intro pins σ H s a oe cls b Q E I he hcl hx q
  refine wpAny_Tuple (wpAny_items_cons (name_at I hc (wpAny_items_cons (name_at I hd (wpAny_items_nil ⟨by show 2 ≤ sizeLine; decide, ?_⟩)))))
  have keep : ∀ q o, s.heap.get? q = some o → (s.heap.push { cls := .type "tuple", data := .seq [c, d].toArray }).get? q = some o := fun _ _ z => (Heap.get?_push_of_some _ z)
  exact (PySem.W.exm_tup2 (I.kIn.keeps keep) (looks_of (keep _ _ he) hcl) (Heap.get?_push_size s.heap rfl) hx).here (q _ keep)
theorem flying_on {h h' B : Heap} {l : List Env} {e : Addr} {Z : Obj → Prop} (k : ∀ q o, h.get? q = some o → h'.get? q = some o) (x : HandSPX.FlyingZ B l e Z h) : HandSPX.FlyingZ B l e Z h' := by
  obtain ⟨f1, f2, f3, oe, vs, T, oT, ts, he, hz, hd, h1, hn, hne, hT, hdT, h3⟩ := x
  exact ⟨fun b o z => k _ _ (f1 _ _ z), f2, f3.of_keeps fun b o z _ => ⟨o, k _ _ z, rfl⟩, oe, vs, T, oT, ts, k _ _ he, hz, hd, h1, hn, hne, k _ _ hT, hdT, h3⟩
abbrev Cls := List Value × (Addr → Value → Option Addr → TS)
def ends (i : Nat) (D : Ends) : Ends := { nx := fun σ H => D.nx (σ.set i none) H, rt := D.rt, bk := fun σ H => D.bk (σ.set i none) H, ct := fun σ H => D.ct (σ.set i none) H }
/-- what the clauses wish of an exception, one after the other -/
def wCls (K : PySem.W.Frag) (i : Nat) (Wout : WX) (D : Ends) : List Cls → WX
  | [] => Wout
  | c :: r => fun cls d σ H => ∃ b, PySem.W.exmAny K cls c.1 = some b ∧ (b = true → ∀ a, H a = none → c.2 a cls d (ends i D) (σ.set i (some (.ref a))) H) ∧ (b = false → wCls K i Wout D r cls d σ H)
inductive ClsOk (X : L2.Cx) (n : Str) : List ExceptHandler → List Cls → Prop
  | nil : ClsOk X n [] []
  | cons {t : Expr} {cs : List Value} {ts : Addr → Value → Option Addr → TS} {b₀ : Stmt} {suite : List Stmt} {p : Pos} {hs : List ExceptHandler} {l : List Cls} (ht : Test X t cs)
      (hsu : ∀ (a : Addr) (oe : Obj) (cls : Value) (d : Option Addr) (pn : List (Addr × Obj)), Zc cls d oe → (∃ vs, oe.data = .fields vs) → PSs (X.suite a ((a, oe) :: pn)) (b₀ :: suite) (ts a cls d)) (r : ClsOk X n hs l) :
      ClsOk X n (.ExceptHandler (some t) (some n) (b₀ :: suite) p :: hs) ((cs, ts) :: l)
theorem ps_try_cls {n : Str} {i : Nat} {body : List Stmt} {h₀ : ExceptHandler} {hs : List ExceptHandler} {l : List Cls} {pos : Pos} {tb : WX → TS} {Wout : WX}
    (hst : X.stack = X.env :: X.outer) (hf : X.env.frame = some X.env.locals) (hN : X.N.Nodup) (hi : X.N[i]? = some n) (hln : X.env.kindOf n = some .local) (tk : Takes X Wout)
    (hb : ∀ (W : WX) (pn : List (Addr × Obj)) (xe : Value → Shared → Prop), Takes (X.tr pn xe) W → PassesOwn (model X.prog X.w) X.A X.env xe → PSs (X.tr pn xe) body (tb W))
    (hh : ClsOk X n (h₀ :: hs) l) : PS X (.Try body (h₀ :: hs) [] [] pos) (fun D σ H => tb (wCls X.K i Wout D l) D σ H) := by
  refine ⟨fun pins s σ H D I wanted => ?_⟩
  have ok := I.ok
  have hfr : X.A.frames = some (X.env :: X.outer) := by rw [ok.frames, hst]
  have vis : Loc X.env.scope n := .inl hln
  refine wpAny_Try_except ?_
  refine wpAny_mono ((hb (wCls X.K i Wout D l) (X.pn ++ pins) (fun e s₁ => wpAny (model X.prog X.w) X.A (noteFrame e X.env) (fun _ s₂ => wpAny (model X.prog X.w) X.A (setFlight e none) (fun _ s₃ =>
      wpAny (model X.prog X.w) X.A (handleBy e X.env (h₀ :: hs)) (SP X pins D) X.xe s₃) X.xe s₂) X.xe s₁) (fun u s' flies => ?_) PassesOwn.looking).run [] s σ H D (I.toTry _) wanted) (fun fl s1 went => ?_) (fun e s1 he => he)
  case _ =>
    obtain ⟨a, B, sI, pins', σ1, H1, cls, d, rfl, J0, gr, up0, sky, na, eo, ag, wish⟩ := flies
    have J : Inv X pins σ1 H1 sI := J0.ofTry ok
    have sky1 : Sky B (X.env :: X.outer) a (Zc cls d) X.env.locals s'.heap := hst ▸ sky
    refine (Sky.land (M := model X.prog X.w) Zc.steady hfr hf sky1 fun h3 fl3 up3 => ?_ : wpAny (model X.prog X.w) X.A (noteFrame (.ref a) X.env) _ _ _)
    -- the clauses, over any heap that keeps the flight
    have go : ∀ {hs' : List ExceptHandler} {l' : List Cls}, ClsOk X n hs' l' → ∀ h, HandSPX.FlyingZ B (X.env :: X.outer) a (Zc cls d) h → sI.heap.UpToSlots h → wCls X.K i Wout D l' cls d σ1 H1 →
        wpAny (model X.prog X.w) X.A (handleBy (.ref a) X.env hs') (SP X pins D) X.xe { s' with heap := h } := by
      intro hs' l' hk
      induction hk with
      | nil =>
        intro h fl up wo
        refine wpAny_handleBy_nil ?_
        obtain ⟨g1, g2, g3, oe, vs, T, oT, rs, he, hz, hd, e1, more⟩ := id fl
        unfold PySem.passOn
        refine wpAny_bind (wpAny_field he hd e1 ?_)
        rw [if_neg (by simp : ¬ ((Value.ref T == Value.none) = true))]
        have last : wpAny (model X.prog X.w) X.A (setFlight (.ref a) X.env.frame) (fun _ s4 => wpAny (model X.prog X.w) X.A (throw (.ref a) : Sem Flow) (SP X pins D) X.xe s4) X.xe { s' with heap := h } :=
          hf ▸ HandSPX.setFlight_upZ fl fun h4 fly4 up4 => wpAny_throw (tk _ _ ⟨a, B, sI, pins, σ1, H1, cls, d, rfl, J, gr, up.trans up4, .inr (.inr (by rw [hst]; exact fly4)), na, eo, ag, wo⟩)
        first
          | exact (wpAny_bind (wpAny_pure (wpAny_bind last)))
          | exact (wpAny_bind last)
      | @cons t cs ts b₀ suite p hs2 l2 ht hsu r ih =>
        intro h fl up wo
        obtain ⟨b, eb, yes, no⟩ := wo
        have inAir : ∀ {h : Heap}, HandSPX.FlyingZ B (X.env :: X.outer) a (Zc cls d) h → sI.heap.UpToSlots h → ∃ oe vs, h.get? a = some oe ∧ Zc cls d oe ∧ oe.data = .fields vs ∧ Inv (X.suite a ((a, oe) :: (X.pn ++ pins))) [] σ1 H1 { s' with heap := h } := by
          intro h fl up
          obtain ⟨oe, vs, he, hz, hd⟩ := (fl.there)
          have notFrame : a ∉ frs (X.env :: X.outer) := fun hm => by
            obtain ⟨_, o', e', nof⟩ := fl.2.2.1.mem hm
            rw [he] at e'
            cases e'
            exact nof _ hd
          have nL : a ≠ X.env.locals := fun z => notFrame (List.mem_filterMap.mpr ⟨X.env, List.mem_cons_self, z ▸ hf⟩)
          have nF : a ∉ X.fs := fun inFs => by
            obtain ⟨e, he, q⟩ := List.mem_filterMap.1 inFs
            exact notFrame (List.mem_filterMap.mpr ⟨e, (List.mem_cons_of_mem _ he), q⟩)
          have J2 : Inv X pins σ1 H1 { s' with heap := h } := J.landed gr fl.1 up eo ag
          exact ⟨oe, vs, he, hz, hd, J2.suite he hd na nL nF⟩
        obtain ⟨oe, vs, he, hz, hd, S⟩ := inAir fl up
        refine wpAny_handleBy_cons (codeAny_handlers_test (ht S he hz.1 eb fun h5 kp => ?_)) (by intro q; cases q)
        have fl5 := flying_on kp fl
        have up5 := up.trans (Heap.UpToSlots.of_keeps kp)
        cases b with
        | false => exact ih h5 fl5 up5 (no rfl)
        | true =>
          refine codeAny_handlers_suite_as (HandSPX.lands_againZ fl5 fun h6 fl6 up6 => ?_)
          obtain ⟨oe6, vs6, he6, hz6, hd6, S6⟩ := inAir fl6 (up5.trans up6)
          refine store_ok (X := X.suite a ((a, oe6) :: (X.pn ++ pins))) (v := .ref a) S6 hN hi vis rfl (fun s7 S7 => ?_) (.inr hln)
          refine wpAny_mono ((hsu a oe6 cls d (X.pn ++ pins) hz6 ⟨_, hd6⟩).run [] s7 _ H1 _ S7 (yes rfl a na)) (fun fl8 s8 went => ?_) (fun _ _ z => (z : False).elim)
          have off : ∀ {σ9 : L2.St} {H9 : Hp} {Q : Shared → Prop}, Inv (X.suite a ((a, oe6) :: (X.pn ++ pins))) [] σ9 H9 s8 → (∀ s9, Inv X pins (σ9.set i none) H9 s9 → Q s9) →
              wpAny (model X.prog X.w) X.A (do bindName X.env n .none; unbindBehindTheSuite X.env n p) (fun _ s9 => Q s9) X.xe s8 := fun S9 hq => gone_ok (S9.unsuite ok) hN hi hln hq
          cases fl8 with
          | next => obtain ⟨σ9, H9, S9, q9⟩ := went; exact off S9 fun s9 J9 => ⟨_, _, J9, q9⟩
          | brk => obtain ⟨σ9, H9, S9, q9⟩ := went; exact off S9 fun s9 J9 => ⟨_, _, J9, q9⟩
          | cont => obtain ⟨σ9, H9, S9, q9⟩ := went; exact off S9 fun s9 J9 => ⟨_, _, J9, q9⟩
          | ret u => obtain ⟨v9, σ9, H9, S9, r9, q9⟩ := went; exact off S9 fun s9 J9 => ⟨_, _, _, J9, r9, q9⟩
    exact go hh h3 fl3 (up0.trans up3) wish
  case _ =>
    cases fl with
    | next => obtain ⟨σ1, H1, J1, q⟩ := went; exact wpAny_execs_nil ⟨σ1, H1, J1.ofTry ok, q⟩
    | brk => obtain ⟨σ1, H1, J1, q⟩ := went; exact ⟨σ1, H1, J1.ofTry ok, q⟩
    | cont => obtain ⟨σ1, H1, J1, q⟩ := went; exact ⟨σ1, H1, J1.ofTry ok, q⟩
    | ret u => obtain ⟨v, σ1, H1, J1, r, q⟩ := went; exact ⟨v, σ1, H1, J1.ofTry ok, r, q⟩
end
end My
set_option Elab.async false
set_option linter.all false
set_option maxRecDepth 100000
set_option maxHeartbeats 8000000
namespace My
open PySem PySem.Spec PyProof.Rows L2
local macro_rules | `(tactic| walk_at "lv") => `(tactic| first | exact Or.inl rfl | exact Or.inr rfl)
/-! ### moved_lot, turned_lot -/
section
variable {P : Program} {w : World} {K : PySem.W.Frag} {mg : Str → Option Value} {base : Heap}
end
end My
set_option Elab.async false
set_option linter.all false
set_option maxRecDepth 100000
set_option maxHeartbeats 8000000
namespace My
open PySem PySem.Spec PyProof.Rows L2
local macro_rules | `(tactic| walk_at "lv") => `(tactic| first | exact Or.inl rfl | exact Or.inr rfl)
theorem passE {P : Program} {w : World} {X : L2.Cx} : Passes (CX P w) X E0 := fun _ _ _ _ _ _ _ c => by
  obtain ⟨_, _, _, _, _, _, _, _, _, _, _, _, z⟩ := c
  exact z.elim
section
variable {P : Program} {w : World} {K : PySem.W.Frag} {mg : Str → Option Value} {base : Heap}
/-! ### _law_lot_of -/
def spLo (K : PySem.W.Frag) : Sp := fun vs H Q _ => ∃ (t c u d : Addr) (T : Tl) (lo hi : Int) (m : Nat), vs = [.ref t] ∧ TellAt H t T c u d ∧ T.Near ∧ T.cs.length < 1000 ∧ -20000 ≤ T.lo ∧ T.hi ≤ 20000 ∧ IsForm T.has T.U T.D lo hi m ∧ -20000 ≤ lo ∧ hi ≤ 20000 ∧
  ∀ p H', Same H H' → LotAt (He.ga K "Lot") H' p lo hi (insOf T lo hi) m (resOf T.U m) (resOf T.D m) → Q (.ref p) H'
abbrev s_lo : Stmt := top 66
abbrev N_lo : List Str := ["_law_telling", "_law_low", "_law_high", "_law_inside", "_law_modulus", "_law_ups", "_law_downs"]
theorem sc_lo : FnScope N_lo ["_law_telling"] (defScope s_lo) := ⟨rfl, rfl, rfl, by decide +kernel, rfl, by decide +kernel, by decide +kernel⟩
theorem kp_lo (F : At K mg "_law_lot_of" s_lo) (Gp : Keeps CX0 P w K mg base "_law_parts" 1 ["_law_telling"] spParts) (Gm : Keeps (CX P w) P w K mg base "make_lot" 4 ["low", "high", "inside", "modulus", "ups", "downs"] (spMake K)) :
    Keeps CX0 P w K mg base "_law_lot_of" 5 ["_law_telling"] (spLo K) := by
  refine keeps_of F sc_lo (fun _ _ _ _ _ _ us hl => match us, hl with | [_], _ => rfl) (fun vs H Q E h => ?_) (fun f cdv A outer s H vs Q E hr h => ?_)
  · obtain ⟨t, c, u, d, T, lo, hi, m, rfl, _⟩ := h
    rfl
  · obtain ⟨t, c, u, d, T, lo, hi, m, rfl, a, near, hc9, b1, b2, fm, c1, c2, k⟩ := h
    refine ⟨_, (pss_cons (ps_asg (pe_k Gp (hr.mono (by decide)) (by rfl) pass0 (pa_cons (pv 0) pa_nil)) (pg_tup (by rfl) (pgs_cons (pg_name (i := 1) sc_lo.nd rfl (by walk_at "lv")) (pgs_cons (pg_name (i := 2) sc_lo.nd rfl (by walk_at "lv")) (pgs_cons (pg_name (i := 3) sc_lo.nd rfl (by walk_at "lv")) (pgs_cons (pg_name (i := 4) sc_lo.nd rfl (by walk_at "lv")) (pgs_cons (pg_name (i := 5) sc_lo.nd rfl (by walk_at "lv")) (pgs_cons (pg_name (i := 6) sc_lo.nd rfl (by walk_at "lv")) pgs_nil))))))))
        (pss_one (ps_ret (pe_k Gm hr (by rfl) (passE (P := P) (w := w)) (pa_cons (pv 1) (pa_cons (pv 2) (pa_cons (pv 3) (pa_cons (pv 4) (pa_cons (pv 5) (pa_cons (pv 6) pa_nil)))))))))), ?_⟩
    have lens := parts_lens (T := T)
    refine ⟨_, rfl, t, c, u, d, T, rfl, a, near.ok, near.m, near.c, fun q a1 a2 a3 H1 s1 pa _ _ _ => ?_⟩
    refine ⟨q, _, rfl, SqT.of pa.q, rfl, _, _, rfl, _, _, rfl, _, _, rfl, _, _, rfl, _, _, rfl, _, _, rfl, rfl, ?_⟩
    refine ⟨_, rfl, _, rfl, _, rfl, _, rfl, _, rfl, _, rfl, T, a1, a2, a3, cIns T, res T.us, res T.ds, rfl, near, hc9, b1, b2, told_parts near.ok (List.Perm.refl _) (List.Perm.refl _) (List.Perm.refl _), ⟨cIns_nodup T, fil_nodup _ _ _, fil_nodup _ _ _⟩, ⟨Nat.le_trans lens.1 near.c, Nat.le_trans lens.2.1 near.m, ?_⟩, .inl pa.a, .inl pa.b, .inl pa.c, ?_, ?_⟩
    · refine Nat.le_trans lens.2.2 ?_
      rw [near.ok.len]
      exact near.m
    · intro p lo' hi' m' H2 fm' _ _ s2 l
      obtain ⟨rfl, rfl, rfl⟩ := fm.unique fm'
      exact k p H2 (s1.trans s2) l
    · intro lo' hi' m' dd H2 fm' out _ _
      obtain ⟨rfl, rfl, rfl⟩ := fm.unique fm'
      omega
/-! ### _law_is -/
end
end My
set_option Elab.async false
set_option linter.all false
set_option maxRecDepth 100000
set_option maxHeartbeats 8000000
namespace My
open PySem PySem.Spec PyProof.Rows L2
local macro_rules | `(tactic| walk_at "lv") => `(tactic| first | exact Or.inl rfl | exact Or.inr rfl)
/-! ### letters and tests as data -/
inductive Lt where
  | set (v : Int)
  | add (v : Int)
  | turn
  | mod (m : Nat)
inductive Ts where
  | below (v : Int)
  | is (v : Int)
  | rest (m : Nat) (r : Int)
def Lt.vs : Lt → List V
  | .set v => [.str "set", .int v]
  | .add v => [.str "add", .int v]
  | .turn => [.str "turn"]
  | .mod m => [.str "mod", .int m]
def Ts.vs : Ts → List V
  | .below v => [.str "below", .int v]
  | .is v => [.str "is", .int v]
  | .rest m r => [.str "rest", .int m, .int r]
def Lt.deed : Lt → Int → Int
  | .set v, _ => v
  | .add v, n => n + v
  | .turn, n => -n
  | .mod m, n => n % (m : Int)
def Ts.pass : Ts → Int → Bool
  | .below v, n => decide (n < v)
  | .is v, n => decide (n = v)
  | .rest m r, n => decide (n % (m : Int) = r)
def Lt.Ok : Lt → Prop
  | .set v => -20 ≤ v ∧ v ≤ 20
  | .add v => -20 ≤ v ∧ v ≤ 20
  | .turn => True
  | .mod m => 1 ≤ m ∧ m ≤ 6
def Ts.Ok : Ts → Prop
  | .below v => -20 ≤ v ∧ v ≤ 20
  | .is v => -20 ≤ v ∧ v ≤ 20
  | .rest m r => (1 ≤ m ∧ m ≤ 6) ∧ 0 ≤ r ∧ r < m
theorem iteS {x : Str} {p q : Prop} (h : p) : if decide (V.str x = V.str x) = true then p else q := by
  rw [if_pos (decide_eq_true rfl)]
  exact h
theorem iteN {x y : Str} {p q : Prop} (hne : x ≠ y) (h : q) : if decide (V.str x = V.str y) = true then p else q := by
  rw [if_neg (by rw [decide_eq_false fun z => hne (V.str.inj z)]; exact Bool.false_ne_true)]
  exact h
theorem vint {a b : Int} : decide (V.int a = V.int b) = decide (a = b) := dec_cong ⟨fun h => V.int.inj h, fun h => by rw [h]⟩
section
variable {P : Program} {w : World} {K : PySem.W.Frag} {mg : Str → Option Value} {base : Heap}
/-! ### do_letter -/
/-! ### passes -/
/-! ### _law_deed -/
/-! ### _law_passes -/
theorem rest_iff0 {m : Nat} {r n : Int} (h0 : 0 ≤ r) (h1 : r < m) : (n - r) % (m : Int) = 0 ↔ n % (m : Int) = r := by
  constructor
  · intro h
    have e : n = (n - r) + r := by omega
    rw [e, Int.add_emod, h, Int.zero_add, Int.emod_emod, Int.emod_eq_of_lt h0 h1]
  · intro h
    rw [Int.sub_emod, h, Int.emod_eq_of_lt h0 h1, Int.sub_self, Int.zero_emod]
end
end My
set_option Elab.async false
set_option linter.all false
set_option maxRecDepth 100000
set_option maxHeartbeats 8000000
namespace My
open PySem PySem.Spec PyProof.Rows L2
local macro_rules | `(tactic| walk_at "lv") => `(tactic| first | exact Or.inl rfl | exact Or.inr rfl)
section
variable {P : Program} {w : World} {K : PySem.W.Frag} {mg : Str → Option Value} {base : Heap}
theorem HandC.nt {H : Hp} {p c u : Addr} {xs : List V} (h : HandC H p c) (e : H u = some (.tup xs)) : u ≠ p := fun z => by
  obtain ⟨_, _, _, _, hp, _⟩ := h
  rw [z, hp] at e
  cases e
theorem log_le {n : Nat} (h : n ≤ 60000) : (n : Int).natAbs.log2 < 9000 := by
  have h2 : (n : Int).natAbs < 2 ^ 16 := by omega
  rcases Nat.eq_zero_or_pos (n : Int).natAbs with h0 | h0
  · rw [h0]; decide
  · have := (Nat.log2_lt (by omega)).mpr h2
    omega
end
end My
set_option Elab.async false
set_option linter.all false
set_option maxRecDepth 100000
set_option maxHeartbeats 8000000
namespace My
open PySem PySem.Spec PyProof.Rows L2
local macro_rules | `(tactic| walk_at "lv") => `(tactic| first | exact Or.inl rfl | exact Or.inr rfl)
theorem hand_ne {p c D : Addr} {H2 : Hp} (h : HandC H2 p c) (hD : H2 D = none) : D ≠ p := fun z => by
  obtain ⟨_, _, _, _, hp, _⟩ := h
  rw [← z, hD] at hp
  cases hp
section
variable {P : Program} {w : World} {K : PySem.W.Frag} {mg : Str → Option Value} {base : Heap}
/-! ### _law_six -/
theorem int_nat {a : Int} (h : 0 ≤ a) : ∃ n : Nat, a = n := ⟨a.toNat, by omega⟩
theorem log_int {a : Int} (h0 : 0 ≤ a) (h1 : a ≤ 60000) : a.natAbs.log2 < 9000 := by
  obtain ⟨n, rfl⟩ := int_nat h0
  exact log_le (by omega)
end
end My
set_option Elab.async false
set_option linter.all false
set_option maxRecDepth 100000
set_option maxHeartbeats 8000000
namespace My
open PySem PySem.Spec PyProof.Rows L2
local macro_rules | `(tactic| walk_at "lv") => `(tactic| first | exact Or.inl rfl | exact Or.inr rfl)
/-! ### things of any kind -/
/-- what stands in a thing -/
inductive El (K : PySem.W.Frag) (H : Hp) : V → PyData → Prop
  | non : El K H .non .none
  | bl (b : Bool) : El K H (.bl b) (.bool b)
  | int (n : Int) : El K H (.int n) (.int n)
  | str (x : Str) (sh : SeqAt.shaped (.str x) = true) : El K H (.str x) (.str x)
  | lst {a : Addr} {xs : List V} {ds : List PyData} : H a = some (.lst xs) → DpAll K H xs ds → SeqAt.shaped (.list ds) = true → El K H (.ref a) (.list ds)
def wD (lo hi : Int) : V → Bool
  | .int n => decide (lo ≤ n) && decide (n ≤ hi)
  | _ => false
def isW (x : V) (z : Str) : Bool := match x with
  | .str y => decide (y = z)
  | _ => false
/-- does a row say a letter, a test -/
def fitsL : List V → Bool
  | [] => false
  | x :: r => if isW x "turn" then r.isEmpty else match r with
    | [y] => if isW x "mod" then wD 1 6 y else (isW x "set" || isW x "add") && wD (-20) 20 y
    | _ => false
def intOf : V → Int
  | .int n => n
  | _ => 0
def fitsT : List V → Bool
  | [] => false
  | x :: r => if isW x "rest" then (match r with
    | [y, z] => wD 1 6 y && wD 0 (intOf y - 1) z
    | _ => false) else match r with
    | [y] => (isW x "below" || isW x "is") && wD (-20) 20 y
    | _ => false
theorem El.same {K : PySem.W.Frag} {H H' : Hp} {x : V} {d : PyData} (s : Same H H') (h : El K H x d) (hf : ∀ a xs, x = .ref a → H a = some (.lst xs) → ∀ y ∈ xs, (∃ n, y = .int n) ∨ ∃ z, y = .str z) : El K H' x d := by
  cases h with
  | non => exact .non
  | bl b => exact .bl b
  | int n => exact .int n
  | str z sh => exact .str z sh
  | lst e ha sh =>
    refine .lst (s _ _ e) ?_ sh
    have q := hf _ _ rfl e
    clear hf sh e
    rename_i a xs ds
    induction xs generalizing ds with
    | nil => cases ha; exact .nil
    | cons y ys ih =>
      cases ha with
      | cons h1 h2 =>
        refine .cons ?_ (ih h2 fun z hz => q z (List.mem_cons_of_mem _ hz))
        rcases q y List.mem_cons_self with ⟨n, rfl⟩ | ⟨z, rfl⟩
        · cases h1; exact .int n
        · cases h1; exact .str z
theorem El.shaped {K : PySem.W.Frag} {H : Hp} {x : V} {d : PyData} (h : El K H x d) : SeqAt.shaped d = true := by
  cases h with
  | lst _ _ sh => exact sh
  | str _ sh => exact sh
  | _ => rfl
theorem El.dp {K : PySem.W.Frag} {H : Hp} {x : V} {d : PyData} (h : El K H x d) : Dp K H x d := by
  cases h with
  | non => exact .non
  | bl b => exact .bl b
  | int n => exact .int n
  | str z => exact .str z
  | lst e ha _ => exact .lst (SqL.of e) ha
theorem El.eqW {K : PySem.W.Frag} {H : Hp} {x : V} {d : PyData} (h : El K H x d) (z : Str) : PyData.eqv d (.str z) = isW x z := by
  cases h with
  | str y => show (y == z) = decide (y = z); by_cases e : y = z <;> simp [e]
  | _ => rfl
/-- an item of a list or a tuple -/
def rIxA (K : PySem.W.Frag) : R2 := fun x y H Q => rIxL K x y H Q ∨ rIxT K x y H Q
theorem ix_any {X : L2.Cx} : IxR X (rIxA X.K) := by
  intro a b pins s σ H x y v u Q I rx ry h hp
  rcases h with h | h
  · exact ix_list a b pins s σ H x y v u Q I rx ry h hp
  · exact ix_tup a b pins s σ H x y v u Q I rx ry h hp
theorem ixA_of {K : PySem.W.Frag} {H : Hp} {a : Addr} {xs : List V} {i : Int} {v : V} {Q : VK} (h : SqA H a xs) (e : atI xs i = some v) (k : Q v H) : rIxA K (.ref a) (.int i) H Q := by
  rcases h with h | h
  · exact .inl ⟨a, xs, i, v, rfl, rfl, SqL.of h, e, k⟩
  · exact .inr ⟨a, xs, i, v, rfl, rfl, SqT.of h, e, k⟩
theorem truA {K : PySem.W.Frag} {H : Hp} {a : Addr} {xs : List V} (h : SqA H a xs) : TruV K (.ref a) H (!xs.isEmpty) := by
  rcases h with h | h
  · exact .inl ⟨xs, SqL.of h, rfl⟩
  · exact .inr (.inl ⟨xs, SqT.of h, rfl⟩)
theorem lenA {K : PySem.W.Frag} {H : Hp} {a : Addr} {xs : List V} (h : SqA H a xs) : SqL K H a xs ∨ SqT K H a xs := by
  rcases h with h | h
  · exact .inl (SqL.of h)
  · exact .inr (SqT.of h)
section
variable {P : Program} {w : World} {K : PySem.W.Frag} {mg : Str → Option Value} {base : Heap}
/-! ### is_whole of any thing -/
def spWhD (K : PySem.W.Frag) : Sp := fun vs H Q _ => ∃ (x : V) (d : PyData), vs = [x] ∧ El K H x d ∧ Q (.bl (match x with | .int _ => true | _ => false)) H
theorem kp_whD (F : At K mg "is_whole" s_whole) (N : Nb mg) : Keeps CX0 P w K mg base "is_whole" 1 ["thing"] (spWhD K) := by
  refine keeps_of F sc_whole (fun _ _ _ _ _ _ us hl => match us, hl with | [_], _ => rfl) (fun vs H Q E h => ?_) (fun f cdv A outer s H vs Q E hr h => ?_)
  · obtain ⟨x, d, rfl, _⟩ := h
    rfl
  · obtain ⟨x, d, rfl, hx, k⟩ := h
    refine ⟨_, (pss_one (ps_ret (pe_and (pe_callB call_isi (by rfl) N.isinstance boot_isinstance (pa_cons (pv 0) (pa_cons (pe_bltn (v := .ty "int") (by rfl) N.int (by decide +kernel) rfl) pa_nil))) (pe_one (pe_not (pe_callB call_isi (by rfl) N.isinstance boot_isinstance (pa_cons (pv 0) (pa_cons (pe_bltn (v := .ty "bool") (by rfl) N.bool (by decide +kernel) rfl) pa_nil)))))))), ?_⟩
    cases hx with
    | int a =>
      refine ⟨_, rfl, .int a, .ty "int", _, _, true, rfl, .ty "int", .base (.int a), kit_ty (by decide +kernel), _, rfl, ?_⟩
      exact ⟨_, rfl, .int a, .ty "bool", _, _, false, rfl, .ty "bool", .base (.int a), kit_ty (by decide +kernel), _, rfl, k⟩
    | bl b =>
      refine ⟨_, rfl, .bl b, .ty "int", _, _, true, rfl, .ty "int", .base (.bl b), kit_ty (by decide +kernel), _, rfl, ?_⟩
      exact ⟨_, rfl, .bl b, .ty "bool", _, _, true, rfl, .ty "bool", .base (.bl b), kit_ty (by decide +kernel), _, rfl, k⟩
    | non => exact ⟨_, rfl, .non, .ty "int", _, _, false, rfl, .ty "int", .base .non, kit_ty (by decide +kernel), _, rfl, k⟩
    | str z => exact ⟨_, rfl, .str z, .ty "int", _, _, false, rfl, .ty "int", .base (.str z), kit_ty (by decide +kernel), _, rfl, k⟩
    | lst e _ _ => exact ⟨_, rfl, _, .ty "int", _, _, false, rfl, .ty "int", .base (.lst e), kit_ty (by decide +kernel), _, rfl, k⟩
def spWfD (K : PySem.W.Frag) : Sp := fun vs H Q _ => ∃ (x : V) (d : PyData) (lo hi : Int), vs = [x, .int lo, .int hi] ∧ El K H x d ∧ Q (.bl (wD lo hi x)) H
theorem kp_wfD (F : At K mg "is_whole_from" s_wholeF) (G : Keeps CX0 P w K mg base "is_whole" 1 ["thing"] (spWhD K)) : Keeps CX0 P w K mg base "is_whole_from" 2 ["thing", "low", "high"] (spWfD K) := by
  refine keeps_of F sc_wholeF (fun _ _ _ _ _ _ us hl => match us, hl with | [_, _, _], _ => rfl) (fun vs H Q E h => ?_) (fun f cdv A outer s H vs Q E hr h => ?_)
  · obtain ⟨x, d, lo, hi, rfl, _⟩ := h
    rfl
  · obtain ⟨x, d, lo, hi, rfl, hx, k⟩ := h
    refine ⟨_, (pss_one (ps_ret (pe_and (pe_k G hr (by rfl) pass0 (pa_cons (pv 0) pa_nil)) (pe_one (pe_chain op_le op_le (pv 1) (pv 0) (pv 2)))))), ?_⟩
    refine ⟨_, rfl, x, d, rfl, hx, _, rfl, ?_⟩
    cases hx with
    | int a =>
      refine ⟨_, rfl, _, rfl, _, _, rfl, rfl, _, rfl, ?_⟩
      have k : Q (.bl (decide (lo ≤ a) && decide (a ≤ hi))) H := k
      by_cases h1 : lo ≤ a
      · rw [decide_eq_true h1] at k ⊢
        exact ⟨_, rfl, _, _, rfl, rfl, k⟩
      · rw [decide_eq_false h1] at k ⊢
        exact k
    | bl b => exact k
    | non => exact k
    | str z => exact k
    | lst e _ _ => exact k
/-! ### is_sequence of any thing -/
/-- a thing that is no list and no tuple -/
def Flat (x : V) : Prop := x = .non ∨ (∃ n, x = .int n) ∨ ∃ z, x = .str z
def spSeqD : Sp := fun vs H Q _ => (∃ a xs, vs = [.ref a] ∧ SqA H a xs ∧ ∀ H', Same H H' → Q (.bl true) H') ∨ ∃ x, vs = [x] ∧ Flat x ∧ ∀ H', Same H H' → Q (.bl false) H'
theorem kp_seqD (F : At K mg "is_sequence" s_seq) (N : Nb mg) : Keeps CX0 P w K mg base "is_sequence" 1 ["thing"] spSeqD := by
  refine keeps_of F sc_seq (fun _ _ _ _ _ _ us hl => match us, hl with | [_], _ => rfl) (fun vs H Q E h => ?_) (fun f cdv A outer s H vs Q E hr h => ?_)
  · rcases h with ⟨a, xs, rfl, _⟩ | ⟨x, rfl, _⟩ <;> rfl
  · obtain ⟨v, rfl⟩ : ∃ v, vs = [v] := by
      rcases h with ⟨a, xs, rfl, _⟩ | ⟨x, rfl, _⟩
      · exact ⟨_, rfl⟩
      · exact ⟨_, rfl⟩
    refine ⟨_, (pss_one (ps_ret (pe_callB call_isiT (by rfl) N.isinstance boot_isinstance (pa_cons (pv 0) (pa_cons (pe_tup (pa_cons (pe_bltn (v := .ty "list") (by rfl) N.list (by decide +kernel) rfl) (pa_cons (pe_bltn (v := .ty "tuple") (by rfl) N.tuple (by decide +kernel) rfl) pa_nil))) pa_nil))))), ?_⟩
    refine ⟨_, rfl, ⟨(by show 2 ≤ sizeLine; decide), fun t ht => ?_⟩⟩
    have s1 := same_new (o := .tup [V.ty "list", V.ty "tuple"]) (Same.refl H) ht
    rcases h with ⟨a, xs, ev, hs, k⟩ | ⟨x, ev, hx, k⟩
    · cases ev
      rcases hs with hs | hs
      · exact ⟨.ref a, t, [.ty "list", .ty "tuple"], _, _, true, rfl, upd_same, .cons (.ty _) (.cons (.ty _) .nil), .base (.lst (s1 _ _ hs)), kitAny_cons (b := true) (kit_ty (by decide +kernel)) (fun z => nomatch z) (fun _ => rfl), k _ s1⟩
      · exact ⟨.ref a, t, [.ty "list", .ty "tuple"], _, _, true, rfl, upd_same, .cons (.ty _) (.cons (.ty _) .nil), .base (.tup (s1 _ _ hs)), kitAny_cons (b := false) (kit_ty (by decide +kernel)) (fun _ => kitAny_cons (b := true) (kit_ty (by decide +kernel)) (fun z => nomatch z) (fun _ => rfl)) (fun z => nomatch z), k _ s1⟩
    · cases ev
      rcases hx with rfl | ⟨n, rfl⟩ | ⟨z, rfl⟩
      · exact ⟨_, t, [.ty "list", .ty "tuple"], _, _, false, rfl, upd_same, .cons (.ty _) (.cons (.ty _) .nil), .base .non, kitAny_cons (b := false) (kit_ty (by decide +kernel)) (fun _ => kitAny_cons (b := false) (kit_ty (by decide +kernel)) (fun _ => rfl) (fun z => nomatch z)) (fun z => nomatch z), k _ s1⟩
      · exact ⟨_, t, [.ty "list", .ty "tuple"], _, _, false, rfl, upd_same, .cons (.ty _) (.cons (.ty _) .nil), .base (.int n), kitAny_cons (b := false) (kit_ty (by decide +kernel)) (fun _ => kitAny_cons (b := false) (kit_ty (by decide +kernel)) (fun _ => rfl) (fun z => nomatch z)) (fun z => nomatch z), k _ s1⟩
      · exact ⟨_, t, [.ty "list", .ty "tuple"], _, _, false, rfl, upd_same, .cons (.ty _) (.cons (.ty _) .nil), .base (.str z), kitAny_cons (b := false) (kit_ty (by decide +kernel)) (fun _ => kitAny_cons (b := false) (kit_ty (by decide +kernel)) (fun _ => rfl) (fun z => nomatch z)) (fun z => nomatch z), k _ s1⟩
end
end My
set_option Elab.async false
set_option linter.all false
set_option maxRecDepth 100000
set_option maxHeartbeats 8000000
namespace My
open PySem PySem.Spec PyProof.Rows L2
local macro_rules | `(tactic| walk_at "lv") => `(tactic| first | exact Or.inl rfl | exact Or.inr rfl)
theorem El.eqW' {K : PySem.W.Frag} {H : Hp} {x : V} {d : PyData} (h : El K H x d) (z : Str) : PyData.eqv (.str z) d = isW x z := by
  cases h with
  | str y =>
    show (z == y) = decide (y = z)
    rw [show (z == y) = decide (z = y) from by by_cases e : z = y <;> simp [e]]
    exact dec_cong ⟨Eq.symm, Eq.symm⟩
  | _ => rfl
theorem at_head {x : V} {r : List V} : atI (x :: r) 0 = some x := atI_nat (j := 0) (xs := x :: r) rfl
theorem fitsL_turn {x : V} {r : List V} (h : isW x "turn" = true) : fitsL (x :: r) = r.isEmpty := by
  show (if isW x "turn" = true then r.isEmpty else _) = _
  rw [if_pos h]
theorem fitsL_len {x : V} {r : List V} (h : isW x "turn" = false) (hl : r.length ≠ 1) : fitsL (x :: r) = false := by
  match r, hl with
  | [], _ => show (if isW x "turn" = true then _ else false) = _; rw [h, if_neg Bool.false_ne_true]
  | [_], hl => exact absurd rfl hl
  | _ :: _ :: _, _ => show (if isW x "turn" = true then _ else false) = _; rw [h, if_neg Bool.false_ne_true]
theorem fitsL_mod {x y : V} (h : isW x "turn" = false) (h2 : isW x "mod" = true) : fitsL [x, y] = wD 1 6 y := by
  show (if isW x "turn" = true then _ else (if isW x "mod" = true then wD 1 6 y else _)) = _
  rw [h, if_neg Bool.false_ne_true, h2, if_pos rfl]
theorem fitsL_sa {x y : V} (h : isW x "turn" = false) (h2 : isW x "mod" = false) : fitsL [x, y] = ((isW x "set" || isW x "add") && wD (-20) 20 y) := by
  show (if isW x "turn" = true then _ else (if isW x "mod" = true then wD 1 6 y else _)) = _
  rw [h, if_neg Bool.false_ne_true, h2, if_neg Bool.false_ne_true]
theorem fitsT_rest {x y z : V} (h : isW x "rest" = true) : fitsT [x, y, z] = (wD 1 6 y && wD 0 (intOf y - 1) z) := by
  show (if isW x "rest" = true then (wD 1 6 y && wD 0 (intOf y - 1) z) else _) = _
  rw [if_pos h]
theorem fitsT_restN {x : V} {r : List V} (h : isW x "rest" = true) (hl : r.length ≠ 2) : fitsT (x :: r) = false := by
  match r, hl with
  | [], _ => show (if isW x "rest" = true then false else _) = _; rw [if_pos h]
  | [_], _ => show (if isW x "rest" = true then false else _) = _; rw [if_pos h]
  | [_, _], hl => exact absurd rfl hl
  | _ :: _ :: _ :: _, _ => show (if isW x "rest" = true then false else _) = _; rw [if_pos h]
theorem fitsT_bi {x y : V} (h : isW x "rest" = false) : fitsT [x, y] = ((isW x "below" || isW x "is") && wD (-20) 20 y) := by
  show (if isW x "rest" = true then _ else ((isW x "below" || isW x "is") && wD (-20) 20 y)) = _
  rw [h, if_neg Bool.false_ne_true]
theorem fitsT_len {x : V} {r : List V} (h : isW x "rest" = false) (hl : r.length ≠ 1) : fitsT (x :: r) = false := by
  match r, hl with
  | [], _ => show (if isW x "rest" = true then _ else false) = _; rw [h, if_neg Bool.false_ne_true]
  | [_], hl => exact absurd rfl hl
  | _ :: _ :: _, _ => show (if isW x "rest" = true then _ else false) = _; rw [h, if_neg Bool.false_ne_true]
/-- a thing's part that stays -/
def Fine (K : PySem.W.Frag) (H : Hp) (x : V) : Prop := ∃ d, El K H x d ∧ ∀ a xs, x = .ref a → H a = some (.lst xs) → ∀ y ∈ xs, (∃ n, y = .int n) ∨ ∃ z, y = .str z
theorem Fine.same {K : PySem.W.Frag} {H H' : Hp} {x : V} (s : Same H H') (h : Fine K H x) : Fine K H' x := by
  obtain ⟨d, e, f⟩ := h
  refine ⟨d, e.same s f, fun a xs hx hH => ?_⟩
  cases e with
  | lst e1 _ _ =>
    cases hx
    have e2 := s _ _ e1
    rw [hH] at e2
    cases e2
    exact f _ _ rfl e1
  | _ => cases hx
theorem fine_int {K : PySem.W.Frag} {H : Hp} (n : Int) : Fine K H (.int n) := ⟨_, .int n, fun _ _ z => nomatch z⟩
theorem fine_bl {K : PySem.W.Frag} {H : Hp} (b : Bool) : Fine K H (.bl b) := ⟨_, .bl b, fun _ _ z => nomatch z⟩
theorem fine_non {K : PySem.W.Frag} {H : Hp} : Fine K H .non := ⟨_, .non, fun _ _ z => nomatch z⟩
theorem fine_str {K : PySem.W.Frag} {H : Hp} (x : Str) (sh : SeqAt.shaped (.str x) = true) : Fine K H (.str x) := ⟨_, .str x sh, fun _ _ z => nomatch z⟩
section
variable {P : Program} {w : World} {K : PySem.W.Frag} {mg : Str → Option Value} {base : Heap}
/-! ### fits_letter, fits_test -/
def spFit (K : PySem.W.Frag) (f : List V → Bool) : Sp := fun vs H Q _ => ∃ x, vs = [x] ∧ ((Flat x ∧ ∀ H', Same H H' → Q (.bl false) H') ∨ ∃ a xs, x = .ref a ∧ SqA H a xs ∧ (∀ y ∈ xs, Fine K H y) ∧ ∀ H', Same H H' → Q (.bl (f xs)) H')
abbrev s_fl : Stmt := top 33
abbrev N_fl : List Str := ["letter"]
theorem sc_fl : FnScope N_fl ["letter"] (defScope s_fl) := ⟨rfl, rfl, rfl, by decide +kernel, rfl, by decide +kernel, by decide +kernel⟩
theorem vlen {n : Nat} {m : Int} : decide (V.int (n : Int) = V.int m) = decide ((n : Int) = m) := vint
theorem kp_fl (F : At K mg "fits_letter" s_fl) (N : Nb mg) (mM : ∃ t, mg "MOST" = some (.int 20 t)) (mR : ∃ t, mg "MOST_REST" = some (.int 6 t)) (Gs : Keeps CX0 P w K mg base "is_sequence" 1 ["thing"] spSeqD) (Gw : Keeps CX0 P w K mg base "is_whole_from" 2 ["thing", "low", "high"] (spWfD K)) :
    Keeps CX0 P w K mg base "fits_letter" 3 ["letter"] (spFit K fitsL) := by
  refine keeps_of F sc_fl (fun _ _ _ _ _ _ us hl => match us, hl with | [_], _ => rfl) (fun vs H Q E h => ?_) (fun f cdv A outer s H vs Q E hr h => ?_)
  · obtain ⟨x, rfl, _⟩ := h
    rfl
  · obtain ⟨x, rfl, h⟩ := h
    obtain ⟨tM, mM⟩ := mM
    obtain ⟨tR, mR⟩ := mR
    have h1 : Room 1 (A.deeper (envOfC "fits_letter" (defScope s_fl) s.heap.objs.size f cdv)) := hr.mono (by decide)
    have hu65 : (A.deeper (envOfC "fits_letter" (defScope s_fl) s.heap.objs.size f cdv)).units + 65 < cLine := by have := hr.un; omega
    refine ⟨_, (pss_cons (ps_if (PW.pt (pw_or (pt_not (pt_val (pe_k Gs h1 (by rfl) pass0 (pa_cons (pv 0) pa_nil)))) (pw_or1 (pt_not (pt_truth (pv 0) (by intro _; rfl)))))) (pss_one (ps_ret pe_bl)) pss_nil)
        (pss_cons (ps_if (pt_cmpR (op_eqD hr.units) (pe_ix ix_any (pv 0) pe_int (fun _ _ => rfl)) pe_str (nomark _)) (pss_one (ps_ret (pe_cmpR op_eq (pe_callB call_len_seq (by rfl) N.len (by decide +kernel) (pa_cons (pv 0) pa_nil)) pe_int (nomark _)))) pss_nil)
        (pss_cons (ps_if (pt_cmpR op_ne (pe_callB call_len_seq (by rfl) N.len (by decide +kernel) (pa_cons (pv 0) pa_nil)) pe_int (nomark _)) (pss_one (ps_ret pe_bl)) pss_nil)
        (pss_cons (ps_if (pt_cmpR (op_eqD hr.units) (pe_ix ix_any (pv 0) pe_int (fun _ _ => rfl)) pe_str (nomark _)) (pss_one (ps_ret (pe_k Gw hr (by rfl) pass0 (pa_cons (pe_ix ix_any (pv 0) pe_int (fun _ _ => rfl)) (pa_cons pe_int (pa_cons (pe_glob (v := .int 6) (by rfl) mR ⟨_, rfl⟩) pa_nil)))))) pss_nil)
        (pss_one (ps_ret (pe_and (pe_cmpR (op_inT hu65) (pe_ix ix_any (pv 0) pe_int (fun _ _ => rfl)) (pe_tup (pa_cons pe_str (pa_cons pe_str pa_nil))) (by rfl)) (pe_one (pe_k Gw hr (by rfl) pass0 (pa_cons (pe_ix ix_any (pv 0) pe_int (fun _ _ => rfl)) (pa_cons (pe_un un_neg (pe_glob (v := .int 20) (by rfl) mM ⟨_, rfl⟩)) (pa_cons (pe_glob (v := .int 20) (by rfl) mM ⟨_, rfl⟩) pa_nil)))))))))))), ?_⟩
    rcases h with ⟨fx, k⟩ | ⟨a, xs, rfl, hs, fine, k⟩
    · exact ⟨_, rfl, .inr ⟨x, rfl, fx, fun H1 s1 => ⟨_, rfl, iteT (iteT (k H1 s1))⟩⟩⟩
    · refine ⟨_, rfl, .inl ⟨a, xs, rfl, hs, fun H1 s1 => ⟨_, rfl, iteF ⟨_, rfl, _, truA (hs.same s1), ?_⟩⟩⟩⟩
      have hs1 := hs.same s1
      cases xs with
      | nil => exact iteT (k H1 s1)
      | cons x r =>
        obtain ⟨d, e0, _⟩ := (fine x List.mem_cons_self).same s1
        refine iteF ⟨_, rfl, ixA_of hs1 at_head ⟨d, _, e0.dp, .str _, e0.shaped, by decide +kernel, _, rfl, ?_⟩⟩
        rw [e0.eqW]
        have kk := k H1 s1
        cases ew : isW x "turn" with
        | true =>
          rw [fitsL_turn ew] at kk
          refine iteT ⟨_, rfl, a, _, rfl, lenA hs1, rfl, ?_⟩
          rw [vint]
          cases r with
          | nil => exact kk
          | cons y t =>
            rw [decide_eq_false (by rw [List.length_cons, List.length_cons]; omega)]
            exact kk
        | false =>
          refine iteF ⟨_, rfl, a, _, rfl, lenA hs1, rfl, _, rfl, ?_⟩
          rw [vint]
          by_cases hl : r.length = 1
          · obtain ⟨y, rfl⟩ : ∃ y, r = [y] := match r, hl with | [y], _ => ⟨y, rfl⟩
            obtain ⟨d1, e1, _⟩ := (fine y (List.mem_cons_of_mem _ List.mem_cons_self)).same s1
            refine iteF ⟨_, rfl, ixA_of hs1 rfl ⟨d, _, e0.dp, .str _, e0.shaped, by decide +kernel, _, rfl, ?_⟩⟩
            rw [e0.eqW]
            cases em : isW x "mod" with
            | true =>
              rw [fitsL_mod ew em] at kk
              exact iteT ⟨_, rfl, ixA_of hs1 rfl ⟨y, d1, 1, 6, rfl, e1, kk⟩⟩
            | false =>
              refine iteF ⟨_, rfl, ixA_of hs1 rfl ⟨(by show 2 ≤ sizeLine; decide), fun t ht => ?_⟩⟩
              have s2 := same_new (o := .tup [V.str "set", V.str "add"]) (Same.refl H1) ht
              obtain ⟨d', e0', _⟩ := (fine x List.mem_cons_self).same (s1.trans s2)
              obtain ⟨d2, e2, _⟩ := (fine y (List.mem_cons_of_mem _ List.mem_cons_self)).same (s1.trans s2)
              have k4 := k _ (s1.trans s2)
              rw [fitsL_sa ew em] at k4
              refine ⟨d', [.str "set", .str "add"], e0'.dp, .tup (SqT.of upd_same) (.cons (.str _) (.cons (.str _) .nil)), e0'.shaped, by decide +kernel, _, rfl, ?_⟩
              rw [show (([.str "set", .str "add"] : List PyData).any fun z => PyData.eqv z d') = (isW x "set" || isW x "add") from by
                show (PyData.eqv (.str "set") d' || (PyData.eqv (.str "add") d' || false)) = _
                rw [e0'.eqW', e0'.eqW', Bool.or_false]]
              cases eo : (isW x "set" || isW x "add") with
              | false =>
                rw [eo] at k4
                exact iteF k4
              | true =>
                rw [eo] at k4
                exact iteT ⟨_, rfl, ixA_of (hs1.same s2) rfl ⟨_, rfl, y, d2, -20, 20, rfl, e2, k4⟩⟩
          · rw [fitsL_len ew hl] at kk
            rw [decide_eq_false (by rw [List.length_cons]; omega)]
            exact iteT kk
abbrev s_ft : Stmt := top 34
abbrev N_ft : List Str := ["test"]
theorem sc_ft : FnScope N_ft ["test"] (defScope s_ft) := ⟨rfl, rfl, rfl, by decide +kernel, rfl, by decide +kernel, by decide +kernel⟩
theorem kp_ft (F : At K mg "fits_test" s_ft) (N : Nb mg) (mM : ∃ t, mg "MOST" = some (.int 20 t)) (mR : ∃ t, mg "MOST_REST" = some (.int 6 t)) (Gs : Keeps CX0 P w K mg base "is_sequence" 1 ["thing"] spSeqD) (Gw : Keeps CX0 P w K mg base "is_whole_from" 2 ["thing", "low", "high"] (spWfD K)) :
    Keeps CX0 P w K mg base "fits_test" 3 ["test"] (spFit K fitsT) := by
  refine keeps_of F sc_ft (fun _ _ _ _ _ _ us hl => match us, hl with | [_], _ => rfl) (fun vs H Q E h => ?_) (fun f cdv A outer s H vs Q E hr h => ?_)
  · obtain ⟨x, rfl, _⟩ := h
    rfl
  · obtain ⟨x, rfl, h⟩ := h
    obtain ⟨tM, mM⟩ := mM
    obtain ⟨tR, mR⟩ := mR
    have h1 : Room 1 (A.deeper (envOfC "fits_test" (defScope s_ft) s.heap.objs.size f cdv)) := hr.mono (by decide)
    have hu65 : (A.deeper (envOfC "fits_test" (defScope s_ft) s.heap.objs.size f cdv)).units + 65 < cLine := by have := hr.un; omega
    refine ⟨_, (pss_cons (ps_if (PW.pt (pw_or (pt_not (pt_val (pe_k Gs h1 (by rfl) pass0 (pa_cons (pv 0) pa_nil)))) (pw_or1 (pt_not (pt_truth (pv 0) (by intro _; rfl)))))) (pss_one (ps_ret pe_bl)) pss_nil)
        (pss_cons (ps_if (pt_cmpR (op_eqD hr.units) (pe_ix ix_any (pv 0) pe_int (fun _ _ => rfl)) pe_str (nomark _)) (pss_one (ps_ret (pe_and (pe_cmpR op_eq (pe_callB call_len_seq (by rfl) N.len (by decide +kernel) (pa_cons (pv 0) pa_nil)) pe_int (nomark _)) (pe_and (pe_k Gw hr (by rfl) pass0 (pa_cons (pe_ix ix_any (pv 0) pe_int (fun _ _ => rfl)) (pa_cons pe_int (pa_cons (pe_glob (v := .int 6) (by rfl) mR ⟨_, rfl⟩) pa_nil)))) (pe_one (pe_k Gw hr (by rfl) pass0 (pa_cons (pe_ix ix_any (pv 0) pe_int (fun _ _ => rfl)) (pa_cons pe_int (pa_cons (pe_op op_sub (pe_ix ix_any (pv 0) pe_int (fun _ _ => rfl)) pe_int) pa_nil))))))))) pss_nil)
        (pss_one (ps_ret (pe_and (pe_cmpR op_eq (pe_callB call_len_seq (by rfl) N.len (by decide +kernel) (pa_cons (pv 0) pa_nil)) pe_int (nomark _)) (pe_and (pe_cmpR (op_inT hu65) (pe_ix ix_any (pv 0) pe_int (fun _ _ => rfl)) (pe_tup (pa_cons pe_str (pa_cons pe_str pa_nil))) (by rfl)) (pe_one (pe_k Gw hr (by rfl) pass0 (pa_cons (pe_ix ix_any (pv 0) pe_int (fun _ _ => rfl)) (pa_cons (pe_un un_neg (pe_glob (v := .int 20) (by rfl) mM ⟨_, rfl⟩)) (pa_cons (pe_glob (v := .int 20) (by rfl) mM ⟨_, rfl⟩) pa_nil))))))))))), ?_⟩
    rcases h with ⟨fx, k⟩ | ⟨a, xs, rfl, hs, fine, k⟩
    · exact ⟨_, rfl, .inr ⟨x, rfl, fx, fun H1 s1 => ⟨_, rfl, iteT (iteT (k H1 s1))⟩⟩⟩
    · refine ⟨_, rfl, .inl ⟨a, xs, rfl, hs, fun H1 s1 => ⟨_, rfl, iteF ⟨_, rfl, _, truA (hs.same s1), ?_⟩⟩⟩⟩
      have hs1 := hs.same s1
      cases xs with
      | nil => exact iteT (k H1 s1)
      | cons x r =>
        obtain ⟨d, e0, _⟩ := (fine x List.mem_cons_self).same s1
        refine iteF ⟨_, rfl, ixA_of hs1 at_head ⟨d, _, e0.dp, .str _, e0.shaped, by decide +kernel, _, rfl, ?_⟩⟩
        rw [e0.eqW]
        have kk := k H1 s1
        cases ew : isW x "rest" with
        | true =>
          refine iteT ⟨_, rfl, a, _, rfl, lenA hs1, rfl, _, rfl, ?_⟩
          rw [vint]
          by_cases hl : r.length = 2
          · obtain ⟨y, z, rfl⟩ : ∃ y z, r = [y, z] := match r, hl with | [y, z], _ => ⟨y, z, rfl⟩
            obtain ⟨d1, e1, _⟩ := (fine y (List.mem_cons_of_mem _ List.mem_cons_self)).same s1
            obtain ⟨d2, e2, _⟩ := (fine z (List.mem_cons_of_mem _ (List.mem_cons_of_mem _ List.mem_cons_self))).same s1
            rw [fitsT_rest ew] at kk
            refine iteT ⟨_, rfl, ixA_of hs1 rfl ⟨y, d1, 1, 6, rfl, e1, _, rfl, ?_⟩⟩
            cases e1 with
            | int n =>
              cases ey : wD 1 6 (.int n) with
              | false =>
                rw [ey] at kk
                exact iteF kk
              | true =>
                rw [ey] at kk
                exact iteT ⟨_, rfl, ixA_of hs1 rfl ⟨_, rfl, ixA_of hs1 rfl ⟨_, _, rfl, rfl, z, d2, 0, n - 1, rfl, e2, kk⟩⟩⟩
            | non => exact iteF kk
            | bl b => exact iteF kk
            | str u _ => exact iteF kk
            | lst _ _ _ => exact iteF kk
          · rw [fitsT_restN ew hl] at kk
            rw [decide_eq_false (by rw [List.length_cons]; omega)]
            exact iteF kk
        | false =>
          refine iteF ⟨_, rfl, a, _, rfl, lenA hs1, rfl, _, rfl, ?_⟩
          rw [vint]
          by_cases hl : r.length = 1
          · obtain ⟨y, rfl⟩ : ∃ y, r = [y] := match r, hl with | [y], _ => ⟨y, rfl⟩
            refine iteT ⟨_, rfl, ixA_of hs1 rfl ⟨(by show 2 ≤ sizeLine; decide), fun t ht => ?_⟩⟩
            have s2 := same_new (o := .tup [V.str "below", V.str "is"]) (Same.refl H1) ht
            obtain ⟨d', e0', _⟩ := (fine x List.mem_cons_self).same (s1.trans s2)
            obtain ⟨d2, e2, _⟩ := (fine y (List.mem_cons_of_mem _ List.mem_cons_self)).same (s1.trans s2)
            have k4 := k _ (s1.trans s2)
            rw [fitsT_bi ew] at k4
            refine ⟨d', [.str "below", .str "is"], e0'.dp, .tup (SqT.of upd_same) (.cons (.str _) (.cons (.str _) .nil)), e0'.shaped, by decide +kernel, _, rfl, ?_⟩
            rw [show (([.str "below", .str "is"] : List PyData).any fun z => PyData.eqv z d') = (isW x "below" || isW x "is") from by
              show (PyData.eqv (.str "below") d' || (PyData.eqv (.str "is") d' || false)) = _
              rw [e0'.eqW', e0'.eqW', Bool.or_false]]
            cases eo : (isW x "below" || isW x "is") with
            | false =>
              rw [eo] at k4
              exact iteF k4
            | true =>
              rw [eo] at k4
              exact iteT ⟨_, rfl, ixA_of (hs1.same s2) rfl ⟨_, rfl, y, d2, -20, 20, rfl, e2, k4⟩⟩
          · rw [fitsT_len ew hl] at kk
            rw [decide_eq_false (by rw [List.length_cons]; omega)]
            exact iteF kk
end
end My
set_option Elab.async false
set_option linter.all false
set_option maxRecDepth 100000
set_option maxHeartbeats 8000000
namespace My
open PySem PySem.Spec PyProof.Rows L2
local macro_rules | `(tactic| walk_at "lv") => `(tactic| first | exact Or.inl rfl | exact Or.inr rfl)
/-! ### X() raised, isinstance of it -/
theorem pmk0 {X : L2.Cx} {x b : Str} {p pos : Pos} (T : ExF X.K X.mg x b []) (hg : Gl X x) (dbg : (x == ("__debug__" : Str)) = false := by decide) :
    PMk X (.Call (.Name x p) [] [] pos) (fun _ H Q => Q (.ref (He.ga X.K x)) none H) := by
  intro pins s σ H Q I h
  refine wpAny_Call_Name_kw (ld_glob I hg T.g ?_ dbg)
  refine PySem.W.callWith_K0 I.kIn T.kC ?_
  show wpAny _ _ (call (.ref (He.ga X.K x)) []) _ _ _
  obtain ⟨bm, N, nm, qn, bs, hdct, sn, sub, ab, col, dd, k0, k1, k2, k3, k5, mN, hC, hN, hni, TL⟩ := exc_obj I.kIn (T.new rfl)
  refine wpAny_call_exc_subT PySem.F.excBase_ValueError TL hC hN hni (fun h' a hm => ?_) (by show 0 ≤ sizeLine; exact Nat.zero_le _)
  exact mk_of I hm (raises_own T.exC T.ty) h (I.hok.gone hm.new)
def rIsE0 (K : PySem.W.Frag) (D a : Addr) (cls : Value) (d : Option Addr) : List V → Hp → VK → Prop := fun xs H Q => cls = .ref D ∧ d = none ∧ rIsE K D a xs H Q
theorem call_isE0 {X : L2.Cx} {a D : Addr} {oe : Obj} {cls : Value} {d : Option Addr} {pn : List (Addr × Obj)} (C : ExcC X.K D) (hz : Zc cls d oe) (hf : ∃ vs, oe.data = .fields vs) : CallR (X.suite a ((a, oe) :: pn)) (.builtin "isinstance") (rIsE0 X.K D a cls d) := by
  intro pns s σ H xs us Q I r h
  obtain ⟨rfl, rfl, h⟩ := h
  exact call_isE C hz hf pns s σ H xs us Q I r h
section
variable {P : Program} {w : World} {K : PySem.W.Frag} {mg : Str → Option Value} {base : Heap}
/-! ### check_letter, check_test -/
theorem chk_walk {K : PySem.W.Frag} {a : Addr} {xs : List V} {H H1 : Hp} {Q : VK} (hs : SqA H a xs) (s1 : Same H H1) (k : ∀ q H', Same H H' → H' q = some (.tup xs) → Q (.ref q) H') :
    ∃ p ys, ([V.ref a] : List V) = [.ref p] ∧ ((SqL K H1 p ys ∧ ∀ l, H1 l = none → Q (.ref l) (upd H1 l (.tup ys))) ∨ (SqT K H1 p ys ∧ Q (.ref p) H1)) := by
  rcases hs with hs | hs
  · exact ⟨a, xs, rfl, .inl ⟨SqL.of (s1 _ _ hs), fun l hl => k l _ (same_new s1 hl) upd_same⟩⟩
  · exact ⟨a, xs, rfl, .inr ⟨SqT.of (s1 _ _ hs), k a _ s1 (s1 _ _ hs)⟩⟩
/-! ### _law_letter_told, _law_test_told -/
end
end My
set_option Elab.async false
set_option linter.all false
set_option maxRecDepth 100000
set_option maxHeartbeats 8000000
namespace My
open PySem PySem.Spec PyProof.Rows L2
local macro_rules | `(tactic| walk_at "lv") => `(tactic| first | exact Or.inl rfl | exact Or.inr rfl)
/-! ### things of any depth, by their data -/
/-- a thing with the data d at x, which stays but at p -/
def Th (K : PySem.W.Frag) (p : Addr) (H : Hp) (x : V) (d : PyData) : Prop := SeqAt.shaped d = true ∧ ∀ H', But p H H' → Dp K H' x d
theorem Th.but {K : PySem.W.Frag} {p : Addr} {H H' : Hp} {x : V} {d : PyData} (b : But p H H') (h : Th K p H x d) : Th K p H' x d := ⟨h.1, fun H2 b2 => h.2 H2 (b.trans b2)⟩
theorem Th.same {K : PySem.W.Frag} {p : Addr} {H H' : Hp} {x : V} {d : PyData} (s : Same H H') (h : Th K p H x d) : Th K p H' x d := h.but (But.of s)
theorem Th.dp {K : PySem.W.Frag} {p : Addr} {H : Hp} {x : V} {d : PyData} (h : Th K p H x d) : Dp K H x d := h.2 H (But.refl p H)
theorem th_int {K : PySem.W.Frag} {p : Addr} {H : Hp} (n : Int) : Th K p H (.int n) (.int n) := ⟨rfl, fun _ _ => .int n⟩
theorem th_bl {K : PySem.W.Frag} {p : Addr} {H : Hp} (b : Bool) : Th K p H (.bl b) (.bool b) := ⟨rfl, fun _ _ => .bl b⟩
theorem th_non {K : PySem.W.Frag} {p : Addr} {H : Hp} : Th K p H .non .none := ⟨rfl, fun _ _ => .non⟩
theorem th_str {K : PySem.W.Frag} {p : Addr} {H : Hp} (z : Str) (sh : SeqAt.shaped (.str z) = true) : Th K p H (.str z) (.str z) := ⟨sh, fun _ _ => .str z⟩
def ThAll (K : PySem.W.Frag) (p : Addr) (H : Hp) (xs : List V) (ds : List PyData) : Prop := ∀ H', But p H H' → DpAll K H' xs ds
theorem thAll_nil {K : PySem.W.Frag} {p : Addr} {H : Hp} : ThAll K p H [] [] := fun _ _ => .nil
theorem thAll_cons {K : PySem.W.Frag} {p : Addr} {H : Hp} {x : V} {d : PyData} {xs : List V} {ds : List PyData} (h : Th K p H x d) (r : ThAll K p H xs ds) : ThAll K p H (x :: xs) (d :: ds) := fun H' b => .cons (h.2 H' b) (r H' b)
theorem th_tup {K : PySem.W.Frag} {p a : Addr} {H : Hp} {xs : List V} {ds : List PyData} (e : H a = some (.tup xs)) (ne : a ≠ p) (r : ThAll K p H xs ds) (sh : SeqAt.shaped (.tuple ds) = true) : Th K p H (.ref a) (.tuple ds) := ⟨sh, fun H' b => .tup (SqT.of (b _ _ ne e)) (r H' b)⟩
theorem th_lst {K : PySem.W.Frag} {p a : Addr} {H : Hp} {xs : List V} {ds : List PyData} (e : H a = some (.lst xs)) (ne : a ≠ p) (r : ThAll K p H xs ds) (sh : SeqAt.shaped (.list ds) = true) : Th K p H (.ref a) (.list ds) := ⟨sh, fun H' b => .lst (SqL.of (b _ _ ne e)) (r H' b)⟩
/-- the name of the type of data -/
def tyN : PyData → String
  | .none => "NoneType"
  | .bool _ => "bool"
  | .int _ => "int"
  | .str _ => "str"
  | .list _ => "list"
  | .tuple _ => "tuple"
  | _ => "?"
theorem dp_ty {K : PySem.W.Frag} {H : Hp} {x : V} {d : PyData} (h : Dp K H x d) : TyX K H x (.type (tyN d)) := by
  cases h with
  | non => exact .base .non
  | bl b => exact .base (.bl b)
  | int n => exact .base (.int n)
  | str z => exact .base (.str z)
  | lst s _ =>
    rcases s with s | ⟨o, its, n, e, c, _⟩
    · rcases s with s | ⟨o, s⟩
      · exact .base (.lst s)
      · exact .base (.frz s)
    · exact .kList e c
  | tup s _ =>
    rcases s with s | ⟨o, its, n, e, c, _⟩
    · rcases s with s | ⟨o, s⟩
      · exact .base (.tup s)
      · exact .fTuple s
    · exact .kTuple e c
def isSq : PyData → Bool
  | .list _ => true
  | .tuple _ => true
  | _ => false
section
variable {P : Program} {w : World} {K : PySem.W.Frag} {mg : Str → Option Value} {base : Heap}
def spSeqT (K : PySem.W.Frag) : Sp := fun vs H Q _ => ∃ (p : Addr) (x : V) (d : PyData), vs = [x] ∧ Th K p H x d ∧ ∀ H', Same H H' → Q (.bl (isSq d)) H'
theorem kp_seqT (F : At K mg "is_sequence" s_seq) (N : Nb mg) : Keeps CX0 P w K mg base "is_sequence" 1 ["thing"] (spSeqT K) := by
  refine keeps_of F sc_seq (fun _ _ _ _ _ _ us hl => match us, hl with | [_], _ => rfl) (fun vs H Q E h => ?_) (fun f cdv A outer s H vs Q E hr h => ?_)
  · obtain ⟨p, x, d, rfl, _⟩ := h
    rfl
  · obtain ⟨p, x, d, rfl, hx, k⟩ := h
    refine ⟨_, (pss_one (ps_ret (pe_callB call_isiT (by rfl) N.isinstance boot_isinstance (pa_cons (pv 0) (pa_cons (pe_tup (pa_cons (pe_bltn (v := .ty "list") (by rfl) N.list (by decide +kernel) rfl) (pa_cons (pe_bltn (v := .ty "tuple") (by rfl) N.tuple (by decide +kernel) rfl) pa_nil))) pa_nil))))), ?_⟩
    refine ⟨_, rfl, ⟨(by show 2 ≤ sizeLine; decide), fun t ht => ?_⟩⟩
    have s1 := same_new (o := .tup [V.ty "list", V.ty "tuple"]) (Same.refl H) ht
    have hx1 := (hx.same s1).dp
    have ty := dp_ty hx1
    have k1 := k _ s1
    refine ⟨x, t, [.ty "list", .ty "tuple"], _, _, isSq d, rfl, upd_same, .cons (.ty _) (.cons (.ty _) .nil), ty, ?_, k1⟩
    cases hx1 with
    | lst _ _ => exact kitAny_cons (b := true) (kit_ty (a := "list") (by decide +kernel)) (fun z => nomatch z) (fun _ => rfl)
    | tup _ _ => exact kitAny_cons (b := false) (kit_ty (a := "tuple") (by decide +kernel)) (fun _ => kitAny_cons (b := true) (kit_ty (a := "tuple") (by decide +kernel)) (fun z => nomatch z) (fun _ => rfl)) (fun z => nomatch z)
    | non => exact kitAny_cons (b := false) (kit_ty (a := "NoneType") (by decide +kernel)) (fun _ => kitAny_cons (b := false) (kit_ty (a := "NoneType") (by decide +kernel)) (fun _ => rfl) (fun z => nomatch z)) (fun z => nomatch z)
    | bl b => exact kitAny_cons (b := false) (kit_ty (a := "bool") (by decide +kernel)) (fun _ => kitAny_cons (b := false) (kit_ty (a := "bool") (by decide +kernel)) (fun _ => rfl) (fun z => nomatch z)) (fun z => nomatch z)
    | int n => exact kitAny_cons (b := false) (kit_ty (a := "int") (by decide +kernel)) (fun _ => kitAny_cons (b := false) (kit_ty (a := "int") (by decide +kernel)) (fun _ => rfl) (fun z => nomatch z)) (fun z => nomatch z)
    | str z => exact kitAny_cons (b := false) (kit_ty (a := "str") (by decide +kernel)) (fun _ => kitAny_cons (b := false) (kit_ty (a := "str") (by decide +kernel)) (fun _ => rfl) (fun z => nomatch z)) (fun z => nomatch z)
end
end My
set_option Elab.async false
set_option linter.all false
set_option maxRecDepth 100000
set_option maxHeartbeats 8000000
namespace My
open PySem PySem.Spec PyProof.Rows L2
local macro_rules | `(tactic| walk_at "lv") => `(tactic| first | exact Or.inl rfl | exact Or.inr rfl)
def wDd (lo hi : Int) : PyData → Bool
  | .int n => decide (lo ≤ n) && decide (n ≤ hi)
  | _ => false
def isIntD : PyData → Bool
  | .int _ => true
  | _ => false
/-- a list or a tuple of the data ds stands at x -/
def SqD (K : PySem.W.Frag) (H : Hp) (x : V) (ds : List PyData) : Prop := ∃ a xs, x = .ref a ∧ (SqL K H a xs ∨ SqT K H a xs) ∧ DpAll K H xs ds
theorem SqD.of {K : PySem.W.Frag} {H : Hp} {x : V} {d : PyData} {ds : List PyData} (h : Dp K H x d) (e : d = .list ds ∨ d = .tuple ds) : SqD K H x ds := by
  rcases e with rfl | rfl
  · cases h with
    | lst s r => exact ⟨_, _, rfl, .inl s, r⟩
  · cases h with
    | tup s r => exact ⟨_, _, rfl, .inr s, r⟩
theorem dpAll_len {K : PySem.W.Frag} {H : Hp} : ∀ {xs : List V} {ds : List PyData}, DpAll K H xs ds → xs.length = ds.length
  | _, _, .nil => rfl
  | _, _, .cons _ r => congrArg Nat.succ (dpAll_len r)
theorem dpAll_get {K : PySem.W.Frag} {H : Hp} : ∀ {xs : List V} {ds : List PyData} {i : Nat} {d : PyData}, DpAll K H xs ds → ds[i]? = some d → ∃ x, xs[i]? = some x ∧ Dp K H x d
  | _, _, 0, _, .cons h _, e => by cases e; exact ⟨_, rfl, h⟩
  | _, _, i + 1, _, .cons _ r, e => dpAll_get (i := i) r (by simpa using e)
  | _, _, _, _, .nil, hq => by simp at hq
/-- an item -/
theorem SqD.ix {K : PySem.W.Frag} {H : Hp} {x : V} {ds : List PyData} {i : Nat} {d : PyData} {Q : VK} (h : SqD K H x ds) (e : ds[i]? = some d) (k : ∀ v, Dp K H v d → Q v H) : rIxA K x (.int i) H Q := by
  obtain ⟨a, xs, rfl, s, r⟩ := h
  obtain ⟨v, e1, hv⟩ := dpAll_get r e
  have e2 := atI_nat e1
  rcases s with s | s
  · exact .inl ⟨a, xs, i, v, rfl, rfl, s, e2, k v hv⟩
  · exact .inr ⟨a, xs, i, v, rfl, rfl, s, e2, k v hv⟩
theorem SqD.tru {K : PySem.W.Frag} {H : Hp} {x : V} {ds : List PyData} (h : SqD K H x ds) : TruV K x H (!ds.isEmpty) := by
  obtain ⟨a, xs, rfl, s, r⟩ := h
  have e : xs.isEmpty = ds.isEmpty := by cases r <;> rfl
  rw [← e]
  rcases s with s | s
  · exact .inl ⟨xs, s, rfl⟩
  · exact .inr (.inl ⟨xs, s, rfl⟩)
/-- its length -/
theorem SqD.len {K : PySem.W.Frag} {H : Hp} {x : V} {ds : List PyData} {Q : VK} (h : SqD K H x ds) (k : Q (.int ds.length) H) : ∃ p ys, ([x] : List V) = [V.ref p] ∧ (SqL K H p ys ∨ SqT K H p ys) ∧ Q (.int (ys.length : Nat)) H := by
  obtain ⟨a, xs, rfl, s, r⟩ := h
  refine ⟨a, xs, rfl, s, ?_⟩
  rw [dpAll_len r]
  exact k
section
variable {P : Program} {w : World} {K : PySem.W.Frag} {mg : Str → Option Value} {base : Heap}
def spWhT (K : PySem.W.Frag) : Sp := fun vs H Q _ => ∃ (x : V) (d : PyData), vs = [x] ∧ Dp K H x d ∧ Q (.bl (isIntD d)) H
theorem kp_whT (F : At K mg "is_whole" s_whole) (N : Nb mg) : Keeps CX0 P w K mg base "is_whole" 1 ["thing"] (spWhT K) := by
  refine keeps_of F sc_whole (fun _ _ _ _ _ _ us hl => match us, hl with | [_], _ => rfl) (fun vs H Q E h => ?_) (fun f cdv A outer s H vs Q E hr h => ?_)
  · obtain ⟨x, d, rfl, _⟩ := h
    rfl
  · obtain ⟨x, d, rfl, hx, k⟩ := h
    have ty := dp_ty hx
    refine ⟨_, (pss_one (ps_ret (pe_and (pe_callB call_isi (by rfl) N.isinstance boot_isinstance (pa_cons (pv 0) (pa_cons (pe_bltn (v := .ty "int") (by rfl) N.int (by decide +kernel) rfl) pa_nil))) (pe_one (pe_not (pe_callB call_isi (by rfl) N.isinstance boot_isinstance (pa_cons (pv 0) (pa_cons (pe_bltn (v := .ty "bool") (by rfl) N.bool (by decide +kernel) rfl) pa_nil)))))))), ?_⟩
    cases hx with
    | int a => exact ⟨_, rfl, _, .ty "int", _, _, true, rfl, .ty "int", ty, kit_ty (a := "int") (by decide +kernel), _, rfl, _, rfl, _, .ty "bool", _, _, false, rfl, .ty "bool", ty, kit_ty (a := "int") (by decide +kernel), _, rfl, k⟩
    | bl b => exact ⟨_, rfl, _, .ty "int", _, _, true, rfl, .ty "int", ty, kit_ty (a := "bool") (by decide +kernel), _, rfl, _, rfl, _, .ty "bool", _, _, true, rfl, .ty "bool", ty, kit_ty (a := "bool") (by decide +kernel), _, rfl, k⟩
    | non => exact ⟨_, rfl, _, .ty "int", _, _, false, rfl, .ty "int", ty, kit_ty (a := "NoneType") (by decide +kernel), _, rfl, k⟩
    | str z => exact ⟨_, rfl, _, .ty "int", _, _, false, rfl, .ty "int", ty, kit_ty (a := "str") (by decide +kernel), _, rfl, k⟩
    | lst _ _ => exact ⟨_, rfl, _, .ty "int", _, _, false, rfl, .ty "int", ty, kit_ty (a := "list") (by decide +kernel), _, rfl, k⟩
    | tup _ _ => exact ⟨_, rfl, _, .ty "int", _, _, false, rfl, .ty "int", ty, kit_ty (a := "tuple") (by decide +kernel), _, rfl, k⟩
def spWfT (K : PySem.W.Frag) : Sp := fun vs H Q _ => ∃ (x : V) (d : PyData) (lo hi : Int), vs = [x, .int lo, .int hi] ∧ Dp K H x d ∧ Q (.bl (wDd lo hi d)) H
theorem kp_wfT (F : At K mg "is_whole_from" s_wholeF) (G : Keeps CX0 P w K mg base "is_whole" 1 ["thing"] (spWhT K)) : Keeps CX0 P w K mg base "is_whole_from" 2 ["thing", "low", "high"] (spWfT K) := by
  refine keeps_of F sc_wholeF (fun _ _ _ _ _ _ us hl => match us, hl with | [_, _, _], _ => rfl) (fun vs H Q E h => ?_) (fun f cdv A outer s H vs Q E hr h => ?_)
  · obtain ⟨x, d, lo, hi, rfl, _⟩ := h
    rfl
  · obtain ⟨x, d, lo, hi, rfl, hx, k⟩ := h
    refine ⟨_, (pss_one (ps_ret (pe_and (pe_k G hr (by rfl) pass0 (pa_cons (pv 0) pa_nil)) (pe_one (pe_chain op_le op_le (pv 1) (pv 0) (pv 2)))))), ?_⟩
    refine ⟨_, rfl, x, d, rfl, hx, _, rfl, ?_⟩
    cases hx with
    | int a =>
      refine ⟨_, rfl, _, rfl, _, _, rfl, rfl, _, rfl, ?_⟩
      have k : Q (.bl (decide (lo ≤ a) && decide (a ≤ hi))) H := k
      by_cases h1 : lo ≤ a
      · rw [decide_eq_true h1] at k ⊢
        exact ⟨_, rfl, _, _, rfl, rfl, k⟩
      · rw [decide_eq_false h1] at k ⊢
        exact k
    | bl b => exact k
    | non => exact k
    | str z => exact k
    | lst _ _ => exact k
    | tup _ _ => exact k
/-! ### is_sequence_of -/
def lenIs (many : Int) : PyData → Bool
  | .list ds => decide ((ds.length : Int) = many)
  | .tuple ds => decide ((ds.length : Int) = many)
  | _ => false
end
end My
set_option Elab.async false
set_option linter.all false
set_option maxRecDepth 100000
set_option maxHeartbeats 8000000
namespace My
open PySem PySem.Spec PyProof.Rows L2
local macro_rules | `(tactic| walk_at "lv") => `(tactic| first | exact Or.inl rfl | exact Or.inr rfl)
def eqS (d : PyData) (z : Str) : Bool := PyData.eqv d (.str z)
def flD : List PyData → Bool
  | [] => false
  | x :: r => if eqS x "turn" then r.isEmpty else match r with
    | [y] => if eqS x "mod" then wDd 1 6 y else (PyData.eqv (.str "set") x || PyData.eqv (.str "add") x) && wDd (-20) 20 y
    | _ => false
def rowsOf : PyData → Option (List PyData)
  | .list ds => some ds
  | .tuple ds => some ds
  | _ => none
def flT (d : PyData) : Bool := match rowsOf d with
  | some ds => flD ds
  | none => false
theorem flD_turn {x : PyData} {r : List PyData} (h : eqS x "turn" = true) : flD (x :: r) = r.isEmpty := by
  show (if eqS x "turn" = true then r.isEmpty else _) = _
  rw [if_pos h]
theorem flD_len {x : PyData} {r : List PyData} (h : eqS x "turn" = false) (hl : r.length ≠ 1) : flD (x :: r) = false := by
  match r, hl with
  | [], _ => show (if eqS x "turn" = true then _ else false) = _; rw [h, if_neg Bool.false_ne_true]
  | [_], hl => exact absurd rfl hl
  | _ :: _ :: _, _ => show (if eqS x "turn" = true then _ else false) = _; rw [h, if_neg Bool.false_ne_true]
theorem flD_mod {x y : PyData} (h : eqS x "turn" = false) (h2 : eqS x "mod" = true) : flD [x, y] = wDd 1 6 y := by
  show (if eqS x "turn" = true then _ else (if eqS x "mod" = true then wDd 1 6 y else _)) = _
  rw [h, if_neg Bool.false_ne_true, h2, if_pos rfl]
theorem flD_sa {x y : PyData} (h : eqS x "turn" = false) (h2 : eqS x "mod" = false) : flD [x, y] = ((PyData.eqv (.str "set") x || PyData.eqv (.str "add") x) && wDd (-20) 20 y) := by
  show (if eqS x "turn" = true then _ else (if eqS x "mod" = true then wDd 1 6 y else _)) = _
  rw [h, if_neg Bool.false_ne_true, h2, if_neg Bool.false_ne_true]
theorem Th.sq {K : PySem.W.Frag} {p : Addr} {H : Hp} {x : V} {d : PyData} {ds : List PyData} (h : Th K p H x d) (e : rowsOf d = some ds) : SqD K H x ds := SqD.of h.dp (by
  cases d <;> first | (cases e; exact .inl rfl) | (cases e; exact .inr rfl) | cases e)
theorem isSq_rows {d : PyData} : isSq d = (rowsOf d).isSome := by cases d <;> rfl
section
variable {P : Program} {w : World} {K : PySem.W.Frag} {mg : Str → Option Value} {base : Heap}
end
end My
set_option Elab.async false
set_option linter.all false
set_option maxRecDepth 100000
set_option maxHeartbeats 8000000
namespace My
open PySem PySem.Spec PyProof.Rows L2
local macro_rules | `(tactic| walk_at "lv") => `(tactic| first | exact Or.inl rfl | exact Or.inr rfl)
/-! ### things whose parts are things -/
mutual
inductive Tg (p : Addr) (H : Hp) : V → PyData → Prop
  | non : Tg p H .non .none
  | bl (b : Bool) : Tg p H (.bl b) (.bool b)
  | int (n : Int) : Tg p H (.int n) (.int n)
  | str (z : Str) (sh : SeqAt.shaped (.str z) = true) : Tg p H (.str z) (.str z)
  | lst {a : Addr} {xs : List V} {ds : List PyData} : H a = some (.lst xs) → a ≠ p → TgAll p H xs ds → SeqAt.shaped (.list ds) = true → Tg p H (.ref a) (.list ds)
  | tup {a : Addr} {xs : List V} {ds : List PyData} : H a = some (.tup xs) → a ≠ p → TgAll p H xs ds → SeqAt.shaped (.tuple ds) = true → Tg p H (.ref a) (.tuple ds)
inductive TgAll (p : Addr) (H : Hp) : List V → List PyData → Prop
  | nil : TgAll p H [] []
  | cons {x : V} {xs : List V} {d : PyData} {ds : List PyData} : Tg p H x d → TgAll p H xs ds → TgAll p H (x :: xs) (d :: ds)
end
section
variable {K : PySem.W.Frag} {p : Addr} {H H' : Hp}
mutual
theorem Tg.but (b : But p H H') : ∀ (d : PyData) (x : V), Tg p H x d → Tg p H' x d
  | .none, _, h => by cases h; exact .non
  | .bool _, _, h => by cases h; exact .bl _
  | .int _, _, h => by cases h; exact .int _
  | .str _, _, h => by cases h with | str _ sh => exact .str _ sh
  | .list ds, _, h => by cases h with | lst e ne r sh => exact .lst (b _ _ ne e) ne (TgAll.but b ds _ r) sh
  | .tuple ds, _, h => by cases h with | tup e ne r sh => exact .tup (b _ _ ne e) ne (TgAll.but b ds _ r) sh
theorem TgAll.but (b : But p H H') : ∀ (ds : List PyData) (xs : List V), TgAll p H xs ds → TgAll p H' xs ds
  | [], _, h => by cases h; exact .nil
  | d :: ds, _, h => by cases h with | cons h r => exact .cons (Tg.but b d _ h) (TgAll.but b ds _ r)
end
mutual
theorem Tg.dp : ∀ (d : PyData) (x : V), Tg p H x d → Dp K H x d
  | .none, _, h => by cases h; exact .non
  | .bool _, _, h => by cases h; exact .bl _
  | .int _, _, h => by cases h; exact .int _
  | .str _, _, h => by cases h; exact .str _
  | .list ds, _, h => by cases h with | lst e _ r _ => exact .lst (SqL.of e) (TgAll.dp ds _ r)
  | .tuple ds, _, h => by cases h with | tup e _ r _ => exact .tup (SqT.of e) (TgAll.dp ds _ r)
theorem TgAll.dp : ∀ (ds : List PyData) (xs : List V), TgAll p H xs ds → DpAll K H xs ds
  | [], _, h => by cases h; exact .nil
  | d :: ds, _, h => by cases h with | cons h r => exact .cons (Tg.dp d _ h) (TgAll.dp ds _ r)
end
theorem Tg.shaped {d : PyData} {x : V} (h : Tg p H x d) : SeqAt.shaped d = true := by
  cases h with
  | str _ sh => exact sh
  | lst _ _ _ sh => exact sh
  | tup _ _ _ sh => exact sh
  | _ => rfl
theorem TgAll.get : ∀ {xs : List V} {ds : List PyData} {i : Nat} {d : PyData}, TgAll p H xs ds → ds[i]? = some d → ∃ x, xs[i]? = some x ∧ Tg p H x d
  | _, _, 0, _, .cons h _, e => by cases e; exact ⟨_, rfl, h⟩
  | _, _, i + 1, _, .cons _ r, e => TgAll.get (i := i) r (by simpa using e)
  | _, _, _, _, .nil, hq => by simp at hq
theorem TgAll.len : ∀ {xs : List V} {ds : List PyData}, TgAll p H xs ds → xs.length = ds.length
  | _, _, .nil => rfl
  | _, _, .cons _ r => congrArg Nat.succ (TgAll.len r)
/-- a list or a tuple of things -/
theorem Tg.rows {d : PyData} {x : V} {ds : List PyData} (h : Tg p H x d) (e : rowsOf d = some ds) : ∃ a xs, x = .ref a ∧ SqA H a xs ∧ TgAll p H xs ds := by
  cases h with
  | lst e1 _ r _ => cases e; exact ⟨_, _, rfl, .inl e1, r⟩
  | tup e1 _ r _ => cases e; exact ⟨_, _, rfl, .inr e1, r⟩
  | _ => cases e
end
end My
set_option Elab.async false
set_option linter.all false
set_option maxRecDepth 100000
set_option maxHeartbeats 8000000
namespace My
open PySem PySem.Spec PyProof.Rows L2
local macro_rules | `(tactic| walk_at "lv") => `(tactic| first | exact Or.inl rfl | exact Or.inr rfl)
theorem Tg.th {K : PySem.W.Frag} {p : Addr} {H : Hp} {x : V} {d : PyData} (h : Tg p H x d) : Th K p H x d := ⟨h.shaped, fun _ b => (Tg.but b _ _ h).dp⟩
theorem Tg.same {p : Addr} {H H' : Hp} {x : V} {d : PyData} (s : Same H H') (h : Tg p H x d) : Tg p H' x d := Tg.but (But.of s) _ _ h
section
variable {P : Program} {w : World} {K : PySem.W.Frag} {mg : Str → Option Value} {base : Heap}
/-! ### fits_letter, fits_test of things -/
def spFitT (K : PySem.W.Frag) (f : PyData → Bool) : Sp := fun vs H Q _ => ∃ (p : Addr) (x : V) (d : PyData), vs = [x] ∧ Tg p H x d ∧ ∀ H', Same H H' → Q (.bl (f d)) H'
theorem kp_flT (F : At K mg "fits_letter" s_fl) (N : Nb mg) (mM : ∃ t, mg "MOST" = some (.int 20 t)) (mR : ∃ t, mg "MOST_REST" = some (.int 6 t)) (Gs : Keeps CX0 P w K mg base "is_sequence" 1 ["thing"] (spSeqT K)) (Gw : Keeps CX0 P w K mg base "is_whole_from" 2 ["thing", "low", "high"] (spWfT K)) :
    Keeps CX0 P w K mg base "fits_letter" 3 ["letter"] (spFitT K flT) := by
  refine keeps_of F sc_fl (fun _ _ _ _ _ _ us hl => match us, hl with | [_], _ => rfl) (fun vs H Q E h => ?_) (fun f cdv A outer s H vs Q E hr h => ?_)
  · obtain ⟨p, x, d, rfl, _⟩ := h
    rfl
  · obtain ⟨p, x, d, rfl, hx, k⟩ := h
    obtain ⟨tM, mM⟩ := mM
    obtain ⟨tR, mR⟩ := mR
    have h1 : Room 1 (A.deeper (envOfC "fits_letter" (defScope s_fl) s.heap.objs.size f cdv)) := hr.mono (by decide)
    have hu65 : (A.deeper (envOfC "fits_letter" (defScope s_fl) s.heap.objs.size f cdv)).units + 65 < cLine := by have := hr.un; omega
    refine ⟨_, (pss_cons (ps_if (PW.pt (pw_or (pt_not (pt_val (pe_k Gs h1 (by rfl) pass0 (pa_cons (pv 0) pa_nil)))) (pw_or1 (pt_not (pt_truth (pv 0) (by intro _; rfl)))))) (pss_one (ps_ret pe_bl)) pss_nil)
        (pss_cons (ps_if (pt_cmpR (op_eqD hr.units) (pe_ix ix_any (pv 0) pe_int (fun _ _ => rfl)) pe_str (nomark _)) (pss_one (ps_ret (pe_cmpR op_eq (pe_callB call_len_seq (by rfl) N.len (by decide +kernel) (pa_cons (pv 0) pa_nil)) pe_int (nomark _)))) pss_nil)
        (pss_cons (ps_if (pt_cmpR op_ne (pe_callB call_len_seq (by rfl) N.len (by decide +kernel) (pa_cons (pv 0) pa_nil)) pe_int (nomark _)) (pss_one (ps_ret pe_bl)) pss_nil)
        (pss_cons (ps_if (pt_cmpR (op_eqD hr.units) (pe_ix ix_any (pv 0) pe_int (fun _ _ => rfl)) pe_str (nomark _)) (pss_one (ps_ret (pe_k Gw hr (by rfl) pass0 (pa_cons (pe_ix ix_any (pv 0) pe_int (fun _ _ => rfl)) (pa_cons pe_int (pa_cons (pe_glob (v := .int 6) (by rfl) mR ⟨_, rfl⟩) pa_nil)))))) pss_nil)
        (pss_one (ps_ret (pe_and (pe_cmpR (op_inT hu65) (pe_ix ix_any (pv 0) pe_int (fun _ _ => rfl)) (pe_tup (pa_cons pe_str (pa_cons pe_str pa_nil))) (by rfl)) (pe_one (pe_k Gw hr (by rfl) pass0 (pa_cons (pe_ix ix_any (pv 0) pe_int (fun _ _ => rfl)) (pa_cons (pe_un un_neg (pe_glob (v := .int 20) (by rfl) mM ⟨_, rfl⟩)) (pa_cons (pe_glob (v := .int 20) (by rfl) mM ⟨_, rfl⟩) pa_nil)))))))))))), ?_⟩
    refine ⟨_, rfl, p, x, d, rfl, hx.th, fun H1 s1 => ⟨_, rfl, ?_⟩⟩
    rw [isSq_rows]
    have k0 : ∀ ds, rowsOf d = some ds → ∀ H', Same H H' → Q (.bl (flD ds)) H' := fun ds e H' s' => by
      have := k H' s'
      unfold flT at this
      rw [e] at this
      exact this
    have hx1 := hx.same s1
    cases er : rowsOf d with
    | none =>
      have k1 := k H1 s1
      unfold flT at k1
      rw [er] at k1
      exact iteT (iteT k1)
    | some ds =>
      have k1 := k0 ds er H1 s1
      obtain ⟨a, xs, rfl, sq, tg⟩ := hx1.rows er
      refine iteF ⟨_, rfl, _, truA sq, ?_⟩
      cases tg with
      | nil => exact iteT k1
      | @cons x0 xr e r t0 tr =>
        refine iteF ⟨_, rfl, ixA_of sq at_head ⟨e, _, t0.dp, .str _, t0.shaped, by decide +kernel, _, rfl, ?_⟩⟩
        show if eqS e "turn" = true then _ else _
        have ln := tr.len
        cases ew : eqS e "turn" with
        | true =>
          rw [flD_turn ew] at k1
          refine iteT ⟨_, rfl, a, _, rfl, lenA sq, rfl, ?_⟩
          rw [vint]
          cases tr with
          | nil => exact k1
          | cons _ _ =>
            rw [decide_eq_false (by rw [List.length_cons, List.length_cons]; omega)]
            exact k1
        | false =>
          refine iteF ⟨_, rfl, a, _, rfl, lenA sq, rfl, _, rfl, ?_⟩
          rw [vint]
          by_cases hl : r.length = 1
          · obtain ⟨y, rfl⟩ : ∃ y, r = [y] := match r, hl with | [y], _ => ⟨y, rfl⟩
            cases tr with
            | @cons y0 _ _ _ ty tn =>
            cases tn
            refine iteF ⟨_, rfl, ixA_of sq at_head ⟨e, _, t0.dp, .str _, t0.shaped, by decide +kernel, _, rfl, ?_⟩⟩
            show if eqS e "mod" = true then _ else _
            cases em : eqS e "mod" with
            | true =>
              rw [flD_mod ew em] at k1
              exact iteT ⟨_, rfl, ixA_of sq rfl ⟨y0, y, 1, 6, rfl, ty.dp, k1⟩⟩
            | false =>
              refine iteF ⟨_, rfl, ixA_of sq at_head ⟨(by show 2 ≤ sizeLine; decide), fun t ht => ?_⟩⟩
              have s2 := same_new (o := .tup [V.str "set", V.str "add"]) (Same.refl H1) ht
              have k4 := k0 _ er _ (s1.trans s2)
              rw [flD_sa ew em] at k4
              refine ⟨e, [.str "set", .str "add"], (t0.same s2).dp, .tup (SqT.of upd_same) (.cons (.str _) (.cons (.str _) .nil)), t0.shaped, by decide +kernel, _, rfl, ?_⟩
              rw [show (([.str "set", .str "add"] : List PyData).any fun z => PyData.eqv z e) = (PyData.eqv (.str "set") e || PyData.eqv (.str "add") e) from by
                show (PyData.eqv (.str "set") e || (PyData.eqv (.str "add") e || false)) = _
                rw [Bool.or_false]]
              cases eo : (PyData.eqv (.str "set") e || PyData.eqv (.str "add") e) with
              | false =>
                rw [eo] at k4
                exact iteF k4
              | true =>
                rw [eo] at k4
                exact iteT ⟨_, rfl, ixA_of (sq.same s2) rfl ⟨_, rfl, y0, y, -20, 20, rfl, (ty.same s2).dp, k4⟩⟩
          · rw [flD_len ew hl] at k1
            rw [decide_eq_false (by rw [List.length_cons]; omega)]
            exact iteT k1
end
end My
set_option Elab.async false
set_option linter.all false
set_option maxRecDepth 100000
set_option maxHeartbeats 8000000
namespace My
open PySem PySem.Spec PyProof.Rows L2
local macro_rules | `(tactic| walk_at "lv") => `(tactic| first | exact Or.inl rfl | exact Or.inr rfl)
def ftD : List PyData → Bool
  | [] => false
  | x :: r => if eqS x "rest" then (match r with
    | [y, z] => wDd 1 6 y && (match y with | .int n => wDd 0 (n - 1) z | _ => false)
    | _ => false) else match r with
    | [y] => (PyData.eqv (.str "below") x || PyData.eqv (.str "is") x) && wDd (-20) 20 y
    | _ => false
def ftT (d : PyData) : Bool := match rowsOf d with
  | some ds => ftD ds
  | none => false
theorem ftD_rest {x y z : PyData} (h : eqS x "rest" = true) : ftD [x, y, z] = (wDd 1 6 y && (match y with | .int n => wDd 0 (n - 1) z | _ => false)) := by
  show (if eqS x "rest" = true then _ else _) = _
  rw [if_pos h]
theorem ftD_restN {x : PyData} {r : List PyData} (h : eqS x "rest" = true) (hl : r.length ≠ 2) : ftD (x :: r) = false := by
  match r, hl with
  | [], _ => show (if eqS x "rest" = true then false else _) = _; rw [if_pos h]
  | [_], _ => show (if eqS x "rest" = true then false else _) = _; rw [if_pos h]
  | [_, _], hl => exact absurd rfl hl
  | _ :: _ :: _ :: _, _ => show (if eqS x "rest" = true then false else _) = _; rw [if_pos h]
theorem ftD_bi {x y : PyData} (h : eqS x "rest" = false) : ftD [x, y] = ((PyData.eqv (.str "below") x || PyData.eqv (.str "is") x) && wDd (-20) 20 y) := by
  show (if eqS x "rest" = true then _ else _) = _
  rw [h, if_neg Bool.false_ne_true]
theorem ftD_len {x : PyData} {r : List PyData} (h : eqS x "rest" = false) (hl : r.length ≠ 1) : ftD (x :: r) = false := by
  match r, hl with
  | [], _ => show (if eqS x "rest" = true then _ else false) = _; rw [h, if_neg Bool.false_ne_true]
  | [_], hl => exact absurd rfl hl
  | _ :: _ :: _, _ => show (if eqS x "rest" = true then _ else false) = _; rw [h, if_neg Bool.false_ne_true]
section
variable {P : Program} {w : World} {K : PySem.W.Frag} {mg : Str → Option Value} {base : Heap}
theorem kp_ftT (F : At K mg "fits_test" s_ft) (N : Nb mg) (mM : ∃ t, mg "MOST" = some (.int 20 t)) (mR : ∃ t, mg "MOST_REST" = some (.int 6 t)) (Gs : Keeps CX0 P w K mg base "is_sequence" 1 ["thing"] (spSeqT K)) (Gw : Keeps CX0 P w K mg base "is_whole_from" 2 ["thing", "low", "high"] (spWfT K)) :
    Keeps CX0 P w K mg base "fits_test" 3 ["test"] (spFitT K ftT) := by
  refine keeps_of F sc_ft (fun _ _ _ _ _ _ us hl => match us, hl with | [_], _ => rfl) (fun vs H Q E h => ?_) (fun f cdv A outer s H vs Q E hr h => ?_)
  · obtain ⟨p, x, d, rfl, _⟩ := h
    rfl
  · obtain ⟨p, x, d, rfl, hx, k⟩ := h
    obtain ⟨tM, mM⟩ := mM
    obtain ⟨tR, mR⟩ := mR
    have h1 : Room 1 (A.deeper (envOfC "fits_test" (defScope s_ft) s.heap.objs.size f cdv)) := hr.mono (by decide)
    have hu65 : (A.deeper (envOfC "fits_test" (defScope s_ft) s.heap.objs.size f cdv)).units + 65 < cLine := by have := hr.un; omega
    refine ⟨_, (pss_cons (ps_if (PW.pt (pw_or (pt_not (pt_val (pe_k Gs h1 (by rfl) pass0 (pa_cons (pv 0) pa_nil)))) (pw_or1 (pt_not (pt_truth (pv 0) (by intro _; rfl)))))) (pss_one (ps_ret pe_bl)) pss_nil)
        (pss_cons (ps_if (pt_cmpR (op_eqD hr.units) (pe_ix ix_any (pv 0) pe_int (fun _ _ => rfl)) pe_str (nomark _)) (pss_one (ps_ret (pe_and (pe_cmpR op_eq (pe_callB call_len_seq (by rfl) N.len (by decide +kernel) (pa_cons (pv 0) pa_nil)) pe_int (nomark _)) (pe_and (pe_k Gw hr (by rfl) pass0 (pa_cons (pe_ix ix_any (pv 0) pe_int (fun _ _ => rfl)) (pa_cons pe_int (pa_cons (pe_glob (v := .int 6) (by rfl) mR ⟨_, rfl⟩) pa_nil)))) (pe_one (pe_k Gw hr (by rfl) pass0 (pa_cons (pe_ix ix_any (pv 0) pe_int (fun _ _ => rfl)) (pa_cons pe_int (pa_cons (pe_op op_sub (pe_ix ix_any (pv 0) pe_int (fun _ _ => rfl)) pe_int) pa_nil))))))))) pss_nil)
        (pss_one (ps_ret (pe_and (pe_cmpR op_eq (pe_callB call_len_seq (by rfl) N.len (by decide +kernel) (pa_cons (pv 0) pa_nil)) pe_int (nomark _)) (pe_and (pe_cmpR (op_inT hu65) (pe_ix ix_any (pv 0) pe_int (fun _ _ => rfl)) (pe_tup (pa_cons pe_str (pa_cons pe_str pa_nil))) (by rfl)) (pe_one (pe_k Gw hr (by rfl) pass0 (pa_cons (pe_ix ix_any (pv 0) pe_int (fun _ _ => rfl)) (pa_cons (pe_un un_neg (pe_glob (v := .int 20) (by rfl) mM ⟨_, rfl⟩)) (pa_cons (pe_glob (v := .int 20) (by rfl) mM ⟨_, rfl⟩) pa_nil))))))))))), ?_⟩
    refine ⟨_, rfl, p, x, d, rfl, hx.th, fun H1 s1 => ⟨_, rfl, ?_⟩⟩
    rw [isSq_rows]
    have k0 : ∀ ds, rowsOf d = some ds → ∀ H', Same H H' → Q (.bl (ftD ds)) H' := fun ds e H' s' => by
      have := k H' s'
      unfold ftT at this
      rw [e] at this
      exact this
    have hx1 := hx.same s1
    cases er : rowsOf d with
    | none =>
      have k1 := k H1 s1
      unfold ftT at k1
      rw [er] at k1
      exact iteT (iteT k1)
    | some ds =>
      have k1 := k0 ds er H1 s1
      obtain ⟨a, xs, rfl, sq, tg⟩ := hx1.rows er
      refine iteF ⟨_, rfl, _, truA sq, ?_⟩
      cases tg with
      | nil => exact iteT k1
      | @cons x0 xr e r t0 tr =>
        refine iteF ⟨_, rfl, ixA_of sq at_head ⟨e, _, t0.dp, .str _, t0.shaped, by decide +kernel, _, rfl, ?_⟩⟩
        show if eqS e "rest" = true then _ else _
        have ln := tr.len
        cases ew : eqS e "rest" with
        | true =>
          refine iteT ⟨_, rfl, a, _, rfl, lenA sq, rfl, _, rfl, ?_⟩
          rw [vint]
          by_cases hl : r.length = 2
          · obtain ⟨y, z, rfl⟩ : ∃ y z, r = [y, z] := match r, hl with | [y, z], _ => ⟨y, z, rfl⟩
            cases tr with
            | @cons y0 _ _ _ ty tn =>
            cases tn with
            | @cons z0 _ _ _ tz tn =>
            cases tn
            rw [ftD_rest ew] at k1
            refine iteT ⟨_, rfl, ixA_of sq rfl ⟨y0, y, 1, 6, rfl, ty.dp, _, rfl, ?_⟩⟩
            cases ty with
            | int n =>
              cases ey : wDd 1 6 (.int n) with
              | false =>
                rw [ey] at k1
                exact iteF k1
              | true =>
                rw [ey] at k1
                exact iteT ⟨_, rfl, ixA_of sq rfl ⟨_, rfl, ixA_of sq rfl ⟨_, _, rfl, rfl, z0, z, 0, n - 1, rfl, tz.dp, k1⟩⟩⟩
            | non => exact iteF k1
            | bl b => exact iteF k1
            | str u _ => exact iteF k1
            | lst _ _ _ _ => exact iteF k1
            | tup _ _ _ _ => exact iteF k1
          · rw [ftD_restN ew hl] at k1
            rw [decide_eq_false (by rw [List.length_cons]; omega)]
            exact iteF k1
        | false =>
          refine iteF ⟨_, rfl, a, _, rfl, lenA sq, rfl, _, rfl, ?_⟩
          rw [vint]
          by_cases hl : r.length = 1
          · obtain ⟨y, rfl⟩ : ∃ y, r = [y] := match r, hl with | [y], _ => ⟨y, rfl⟩
            cases tr with
            | @cons y0 _ _ _ ty tn =>
            cases tn
            refine iteT ⟨_, rfl, ixA_of sq at_head ⟨(by show 2 ≤ sizeLine; decide), fun t ht => ?_⟩⟩
            have s2 := same_new (o := .tup [V.str "below", V.str "is"]) (Same.refl H1) ht
            have k4 := k0 _ er _ (s1.trans s2)
            rw [ftD_bi ew] at k4
            refine ⟨e, [.str "below", .str "is"], (t0.same s2).dp, .tup (SqT.of upd_same) (.cons (.str _) (.cons (.str _) .nil)), t0.shaped, by decide +kernel, _, rfl, ?_⟩
            rw [show (([.str "below", .str "is"] : List PyData).any fun z => PyData.eqv z e) = (PyData.eqv (.str "below") e || PyData.eqv (.str "is") e) from by
              show (PyData.eqv (.str "below") e || (PyData.eqv (.str "is") e || false)) = _
              rw [Bool.or_false]]
            cases eo : (PyData.eqv (.str "below") e || PyData.eqv (.str "is") e) with
            | false =>
              rw [eo] at k4
              exact iteF k4
            | true =>
              rw [eo] at k4
              exact iteT ⟨_, rfl, ixA_of (sq.same s2) rfl ⟨_, rfl, y0, y, -20, 20, rfl, (ty.same s2).dp, k4⟩⟩
          · rw [ftD_len ew hl] at k1
            rw [decide_eq_false (by rw [List.length_cons]; omega)]
            exact iteF k1
end
end My
set_option Elab.async false
set_option linter.all false
set_option maxRecDepth 100000
set_option maxHeartbeats 8000000
namespace My
open PySem PySem.Spec PyProof.Rows L2
local macro_rules | `(tactic| walk_at "lv") => `(tactic| first | exact Or.inl rfl | exact Or.inr rfl)
/-! ### moves, starts, arrows as data -/
inductive Mv where
  | stay
  | deed (L : Lt)
  | so (T : Ts)
  | not (T : Ts)
def Lt.ds : Lt → List PyData
  | .set v => [.str "set", .int v]
  | .add v => [.str "add", .int v]
  | .turn => [.str "turn"]
  | .mod m => [.str "mod", .int m]
def Ts.ds : Ts → List PyData
  | .below v => [.str "below", .int v]
  | .is v => [.str "is", .int v]
  | .rest m r => [.str "rest", .int m, .int r]
def Lt.d (L : Lt) : PyData := .tuple L.ds
def Ts.d (T : Ts) : PyData := .tuple T.ds
/-! ### read off things -/
def rowsN (d : PyData) : List PyData := (rowsOf d).getD []
def ltOf (d : PyData) : Lt := match rowsN d with
  | [.str z, .int v] => if z = "set" then .set v else if z = "add" then .add v else .mod v.toNat
  | _ => .turn
def tsOf (d : PyData) : Ts := match rowsN d with
  | [.str z, .int v] => if z = "below" then .below v else .is v
  | [.str _, .int m, .int r] => .rest m.toNat r
  | _ => .is 0
theorem eqS_eq {d : PyData} {z : Str} (h : eqS d z = true) : d = .str z := by
  unfold eqS at h
  cases d <;> simp [PyData.eqv] at h
  rw [h]
theorem eqS_eq' {d : PyData} {z : Str} (h : PyData.eqv (.str z) d = true) : d = .str z := by
  cases d <;> simp [PyData.eqv] at h
  rw [h]
theorem eqS_self (z : Str) : eqS (.str z) z = true := by
  unfold eqS
  simp [PyData.eqv]
theorem eqS_self' (z : Str) : PyData.eqv (.str z) (.str z) = true := by simp [PyData.eqv]
theorem eqS_ne {z y : Str} (h : z ≠ y) : eqS (.str z) y = false := by
  unfold eqS
  simp [PyData.eqv, h]
theorem wDd_ok {lo hi : Int} {d : PyData} (h : wDd lo hi d = true) : ∃ n, d = .int n ∧ lo ≤ n ∧ n ≤ hi := by
  cases d <;> simp [wDd] at h
  exact ⟨_, rfl, h.1, h.2⟩
theorem wDd_int {lo hi n : Int} (h : lo ≤ n ∧ n ≤ hi) : wDd lo hi (.int n) = true := by simp [wDd, h]
theorem flT_ok {d : PyData} (h : flT d = true) : (ltOf d).Ok ∧ rowsOf d = some (ltOf d).ds := by
  unfold flT at h
  cases er : rowsOf d with
  | none => rw [er] at h; exact Bool.noConfusion h
  | some ds =>
    rw [er] at h
    have e0 : rowsN d = ds := by unfold rowsN; rw [er]; rfl
    unfold ltOf
    rw [e0]
    cases ds with
    | nil => exact Bool.noConfusion h
    | cons x r =>
      cases ew : eqS x "turn" with
      | true =>
        have h : flD (x :: r) = true := h
        rw [flD_turn ew] at h
        cases r with
        | nil =>
          rw [eqS_eq ew]
          exact ⟨trivial, rfl⟩
        | cons y t => exact Bool.noConfusion h
      | false =>
        by_cases hl : r.length = 1
        · obtain ⟨y, rfl⟩ : ∃ y, r = [y] := match r, hl with | [y], _ => ⟨y, rfl⟩
          have h : flD [x, y] = true := h
          cases em : eqS x "mod" with
          | true =>
            rw [flD_mod ew em] at h
            obtain ⟨n, rfl, h1, h2⟩ := wDd_ok h
            rw [eqS_eq em]
            have e1 : ((n.toNat : Nat) : Int) = n := by omega
            refine ⟨(show 1 ≤ n.toNat ∧ n.toNat ≤ 6 by omega), ?_⟩
            show some [PyData.str "mod", .int n] = some [.str "mod", .int (n.toNat : Int)]
            rw [e1]
          | false =>
            rw [flD_sa ew em] at h
            obtain ⟨h0, h3⟩ := and_ok h
            obtain ⟨n, rfl, h1, h2⟩ := wDd_ok h3
            rcases Bool.or_eq_true_iff.mp h0 with h0 | h0
            · rw [eqS_eq' h0]
              exact ⟨⟨h1, h2⟩, rfl⟩
            · rw [eqS_eq' h0]
              exact ⟨⟨h1, h2⟩, rfl⟩
        · have h : flD (x :: r) = true := h
          rw [flD_len ew hl] at h
          exact Bool.noConfusion h
theorem ftT_ok {d : PyData} (h : ftT d = true) : (tsOf d).Ok ∧ rowsOf d = some (tsOf d).ds := by
  unfold ftT at h
  cases er : rowsOf d with
  | none => rw [er] at h; exact Bool.noConfusion h
  | some ds =>
    rw [er] at h
    have e0 : rowsN d = ds := by unfold rowsN; rw [er]; rfl
    unfold tsOf
    rw [e0]
    cases ds with
    | nil => exact Bool.noConfusion h
    | cons x r =>
      have h : ftD (x :: r) = true := h
      cases ew : eqS x "rest" with
      | true =>
        by_cases hl : r.length = 2
        · obtain ⟨y, z, rfl⟩ : ∃ y z, r = [y, z] := match r, hl with | [y, z], _ => ⟨y, z, rfl⟩
          rw [ftD_rest ew] at h
          obtain ⟨h0, h3⟩ := and_ok h
          obtain ⟨n, rfl, h1, h2⟩ := wDd_ok h0
          obtain ⟨q, rfl, h4, h5⟩ := wDd_ok (show wDd 0 (n - 1) z = true from h3)
          rw [eqS_eq ew]
          have e1 : ((n.toNat : Nat) : Int) = n := by omega
          refine ⟨(show (1 ≤ n.toNat ∧ n.toNat ≤ 6) ∧ 0 ≤ q ∧ q < (n.toNat : Int) by omega), ?_⟩
          show some [PyData.str "rest", .int n, .int q] = some [.str "rest", .int (n.toNat : Int), .int q]
          rw [e1]
        · rw [ftD_restN ew hl] at h
          exact Bool.noConfusion h
      | false =>
        by_cases hl : r.length = 1
        · obtain ⟨y, rfl⟩ : ∃ y, r = [y] := match r, hl with | [y], _ => ⟨y, rfl⟩
          rw [ftD_bi ew] at h
          obtain ⟨h0, h3⟩ := and_ok h
          obtain ⟨n, rfl, h1, h2⟩ := wDd_ok h3
          rcases Bool.or_eq_true_iff.mp h0 with h0 | h0
          · rw [eqS_eq' h0]
            exact ⟨⟨h1, h2⟩, rfl⟩
          · rw [eqS_eq' h0]
            exact ⟨⟨h1, h2⟩, rfl⟩
        · rw [ftD_len ew hl] at h
          exact Bool.noConfusion h
/-! the other way -/
theorem flT_of {L : Lt} {d : PyData} (ok : L.Ok) (h : rowsOf d = some L.ds) : flT d = true := by
  unfold flT
  rw [h]
  show flD L.ds = true
  cases L with
  | set v => show flD [.str "set", .int v] = true; rw [flD_sa (eqS_ne (by decide)) (eqS_ne (by decide)), eqS_self', wDd_int ok]; rfl
  | add v => show flD [.str "add", .int v] = true; rw [flD_sa (eqS_ne (by decide)) (eqS_ne (by decide)), eqS_self', wDd_int ok, Bool.or_true]; rfl
  | turn => show flD [.str "turn"] = true; rw [flD_turn (eqS_self _)]; rfl
  | mod m =>
    show flD [.str "mod", .int m] = true
    rw [flD_mod (eqS_ne (by decide)) (eqS_self _)]
    have ok : 1 ≤ m ∧ m ≤ 6 := ok
    exact wDd_int (by omega)
theorem ftT_of {T : Ts} {d : PyData} (ok : T.Ok) (h : rowsOf d = some T.ds) : ftT d = true := by
  unfold ftT
  rw [h]
  show ftD T.ds = true
  cases T with
  | below v => show ftD [.str "below", .int v] = true; rw [ftD_bi (eqS_ne (by decide)), eqS_self', wDd_int ok]; rfl
  | is v => show ftD [.str "is", .int v] = true; rw [ftD_bi (eqS_ne (by decide)), eqS_self', wDd_int ok, Bool.or_true]; rfl
  | rest m r =>
    show ftD [.str "rest", .int m, .int r] = true
    have ok : (1 ≤ m ∧ m ≤ 6) ∧ 0 ≤ r ∧ r < m := ok
    rw [ftD_rest (eqS_self _), wDd_int (by omega)]
    exact wDd_int (show 0 ≤ r ∧ r ≤ (m : Int) - 1 by omega)
theorem rowsN_of {d : PyData} {ds : List PyData} (h : rowsOf d = some ds) : rowsN d = ds := by unfold rowsN; rw [h]; rfl
theorem ltOf_of {L : Lt} {d : PyData} (h : rowsOf d = some L.ds) : ltOf d = L := by
  unfold ltOf
  rw [rowsN_of h]
  cases L with
  | set v => rfl
  | add v => rfl
  | turn => rfl
  | mod m => rfl
theorem tsOf_of {T : Ts} {d : PyData} (h : rowsOf d = some T.ds) : tsOf d = T := by
  unfold tsOf
  rw [rowsN_of h]
  cases T with
  | below v => rfl
  | is v => rfl
  | rest m r => rfl
end My
set_option Elab.async false
set_option linter.all false
set_option maxRecDepth 100000
set_option maxHeartbeats 8000000
namespace My
open PySem PySem.Spec PyProof.Rows L2
local macro_rules | `(tactic| walk_at "lv") => `(tactic| first | exact Or.inl rfl | exact Or.inr rfl)
section
variable {K : PySem.W.Frag} {p : Addr} {H H' H2 : Hp}
/-- tuples and instances stay -/
def Kt (H H' : Hp) : Prop := (∀ a xs, H a = some (.tup xs) → H' a = some (.tup xs)) ∧ ∀ a C dx fs, H a = some (.ins C dx fs) → H' a = some (.ins C dx fs)
theorem Kt.refl (H : Hp) : Kt H H := ⟨fun _ _ e => e, fun _ _ _ _ e => e⟩
theorem Kt.trans (a : Kt H H') (b : Kt H' H2) : Kt H H2 := ⟨fun x xs e => b.1 x xs (a.1 x xs e), fun x C dx fs e => b.2 x C dx fs (a.2 x C dx fs e)⟩
theorem Kt.of (s : Same H H') : Kt H H' := ⟨fun a _ e => s a _ e, fun a _ _ _ e => s a _ e⟩
theorem Kt.but {xs : List V} (hp : H p = some (.lst xs)) (b : But p H H') : Kt H H' :=
  ⟨fun a _ e => b a _ (ne_of e hp (fun z => nomatch z)) e, fun a _ _ _ e => b a _ (ne_of e hp (fun z => nomatch z)) e⟩
theorem Kt.hand {c : Addr} (h : HandC H p c) (b : But p H H') : Kt H H' := by
  obtain ⟨_, _, _, _, hp, _⟩ := h
  exact Kt.but hp b
theorem Kt.lst {xs ys : List V} (hp : H p = some (.lst xs)) : Kt H (upd H p (.lst ys)) :=
  Kt.but hp fun b o hb e => by rw [upd_ne hb]; exact e
theorem shp_list {ds : List PyData} (h : SeqAt.shaped (.tuple ds) = true) : ∀ d ∈ ds, SeqAt.shaped d = true := by
  intro d hd
  unfold SeqAt.shaped at h ⊢
  obtain ⟨g1, g2⟩ := and_ok h
  have g3 := of_decide_eq_true g2
  have h1 : PyData.canLayAll0 ds = true := by simpa [PyData.canLay0] using g1
  have h2 : PyData.depthAll ds + 1 ≤ 64 := by simpa [PyData.depth] using g3
  have q : d.canLay0 = true ∧ d.depth ≤ PyData.depthAll ds := by
    clear g1 g2 g3 h2 h
    induction ds with
    | nil => simp at hd
    | cons e es ih =>
      obtain ⟨a, b⟩ := and_ok (show (PyData.canLay0 e && PyData.canLayAll0 es) = true by simpa [PyData.canLayAll0] using h1)
      rcases List.mem_cons.mp hd with rfl | hd
      · exact ⟨a, by simp only [PyData.depthAll]; omega⟩
      · obtain ⟨q1, q2⟩ := ih hd b
        exact ⟨q1, by simp only [PyData.depthAll]; omega⟩
  rw [q.1, decide_eq_true (by omega)]
  rfl
end
theorem shp_lt (L : Lt) : SeqAt.shaped L.d = true := by cases L <;> kernel_rfl
theorem shp_ts (T : Ts) : SeqAt.shaped T.d = true := by cases T <;> kernel_rfl
def Small (n : Nat) (d : PyData) : Prop := d.canLay0 = true ∧ d.depth ≤ n
theorem canAll_of : ∀ {ds : List PyData}, (∀ d ∈ ds, d.canLay0 = true) → PyData.canLayAll0 ds = true
  | [], _ => by simp [PyData.canLayAll0]
  | d :: ds, h => by
    have ih := canAll_of (ds := ds) fun e he => h e (List.mem_cons_of_mem _ he)
    simp only [PyData.canLayAll0, h d List.mem_cons_self, ih, Bool.and_self]
theorem depAll_of {n : Nat} : ∀ {ds : List PyData}, (∀ d ∈ ds, d.depth ≤ n) → PyData.depthAll ds ≤ n
  | [], _ => by simp [PyData.depthAll]
  | d :: ds, h => by
    have ih := depAll_of (ds := ds) fun e he => h e (List.mem_cons_of_mem _ he)
    have := h d List.mem_cons_self
    simp only [PyData.depthAll]
    omega
theorem small_tup {n : Nat} {ds : List PyData} (h : ∀ d ∈ ds, Small n d) : Small (n + 1) (.tuple ds) := by
  refine ⟨?_, ?_⟩
  · simp only [PyData.canLay0]
    exact canAll_of fun d hd => (h d hd).1
  · simp only [PyData.depth]
    have := depAll_of (ds := ds) (n := n) fun d hd => (h d hd).2
    omega
theorem small_lst {n : Nat} {ds : List PyData} (h : ∀ d ∈ ds, Small n d) : Small (n + 1) (.list ds) := by
  refine ⟨?_, ?_⟩
  · simp only [PyData.canLay0]
    exact canAll_of fun d hd => (h d hd).1
  · simp only [PyData.depth]
    have := depAll_of (ds := ds) (n := n) fun d hd => (h d hd).2
    omega
theorem Small.shaped {n : Nat} {d : PyData} (h : Small n d) (hn : n ≤ 64) : SeqAt.shaped d = true := by
  have h1 := h.1
  have h2 := h.2
  unfold SeqAt.shaped
  rw [h1, decide_eq_true (by omega)]
  rfl
theorem same_at {H H' : Hp} {D : Addr} {o : HO} (s : Same H H') (hD : H D = none) : Same H (upd H' D o) := fun b u e => by
  rw [upd_ne (ne_of_none e hD)]
  exact s b u e
/-- (a, b, ..) = a list or a tuple of that length -/
def gTupA (n : Nat) (t : TGs) : TG := fun v σ H Q => ∃ a xs, v = .ref a ∧ SqA H a xs ∧ xs.length = n ∧ t xs σ H Q
theorem pg_tupA {X : L2.Cx} {pos : Pos} {es : List Expr} {k : Nat} {t : TGs} {n : Nat} (hc : X.calm = true) (h : PGs X es t)
    (hn : (assignEach es X.env).length = n := by rfl) (hst : (assignEach es X.env).findIdx? (·.1) = none := by rfl) : PG X (.Tuple es k pos) (gTupA n t) := by
  refine ⟨fun pins s σ H v u Q I r hw => ?_⟩
  obtain ⟨a, xs, e1, hq, hl, hw⟩ := hw
  rcases hq with hq | hq
  · exact (pg_unl hc h hn hst).run pins s σ H v u Q I r ⟨a, xs, e1, SqL.of hq, hl, hw⟩
  · exact (pg_tup hc h hn hst).run pins s σ H v u Q I r ⟨a, xs, e1, SqT.of hq, hl, hw⟩
/-- tuple(x), as a reading that does not name where it stands -/
def rTupOf (K : PySem.W.Frag) : List V → Hp → VK → Prop := fun xs H Q => ∃ p ys, xs = [.ref p] ∧ ((SqL K H p ys ∧ ∀ l, H l = none → Q (.ref l) (upd H l (.tup ys))) ∨ (SqT K H p ys ∧ Q (.ref p) H))
theorem take_snoc {α : Type} {l : List α} {i : Nat} {x : α} (e : l[i]? = some x) : l.take (i + 1) = l.take i ++ [x] := by
  rw [List.take_add_one, e]
  rfl
/-- a row of odd things so far -/
structure Od (p c : Addr) (H0 : Hp) (R : PyData → Prop) (H : Hp) (xs : List V) : Prop where
  b : But p H0 H
  h : HandC H p c
  x : ∀ v ∈ xs, ∃ d, Tg p H v d ∧ R d
section
variable {p c : Addr} {H0 H H' : Hp} {R : PyData → Prop} {xs : List V}
theorem Od.but (a : Od p c H0 R H xs) (b : But p H H') (h : HandC H' p c) : Od p c H0 R H' xs :=
  ⟨a.b.trans b, h, fun v hv => by obtain ⟨d, t, r⟩ := a.x v hv; exact ⟨d, Tg.but b _ _ t, r⟩⟩
theorem Od.alloc (a : Od p c H0 R H xs) {t : Addr} {o : HO} (h : H t = none) : Od p c H0 R (upd H t o) xs := a.but (But.of (same_new (Same.refl H) h)) (a.h.same (same_new (Same.refl H) h))
theorem Od.add (a : Od p c H0 R H xs) {x : V} {d : PyData} (t : Tg p H x d) (r : R d) : Od p c H0 R H (xs ++ [x]) :=
  ⟨a.b, a.h, fun v hv => by
    rcases List.mem_append.mp hv with hv | hv
    · exact a.x v hv
    · rw [List.mem_singleton.mp hv]; exact ⟨d, t, r⟩⟩
theorem Od.nil (h : HandC H p c) : Od p c H R H [] := ⟨But.refl p H, h, fun v hv => by cases hv⟩
end
theorem wDd_no {lo hi m : Int} (h : ¬ (lo ≤ m ∧ m ≤ hi)) : wDd lo hi (.int m) = false := by
  show (decide (lo ≤ m) && decide (m ≤ hi)) = false
  by_cases h1 : lo ≤ m
  · rw [decide_eq_false (p := m ≤ hi) fun z => h ⟨h1, z⟩, Bool.and_false]
  · rw [decide_eq_false h1]; rfl
theorem Small.mono {a b : Nat} {d : PyData} (h : Small a d) (l : a ≤ b) : Small b d := ⟨h.1, Nat.le_trans h.2 l⟩
theorem cut_from {xs : List V} {i : Nat} : cutV xs (some (i : Int)) none = xs.drop i := by
  unfold cutV
  rw [HT.sIx_nat, HT.sIx_none]
  by_cases h : i ≤ xs.length
  · rw [Nat.min_eq_left h, List.take_of_length_le (by rw [List.length_drop]; exact Nat.le_refl _)]
  · rw [Nat.min_eq_right (by omega), List.drop_of_length_le (Nat.le_refl _), List.drop_of_length_le (by omega), List.take_nil]
theorem cut_to {xs : List V} {i : Nat} : cutV xs none (some (i : Int)) = xs.take i := by
  unfold cutV
  rw [HT.sIx_nat, HT.sIx_none, List.drop_zero, Nat.sub_zero]
  by_cases h : i ≤ xs.length
  · rw [Nat.min_eq_left h]
  · rw [Nat.min_eq_right (by omega), List.take_length, List.take_of_length_le (by omega)]
section
variable {p : Addr} {H H' : Hp}
theorem TgAll.app : ∀ {xs ys : List V} {ds es : List PyData}, TgAll p H xs ds → TgAll p H ys es → TgAll p H (xs ++ ys) (ds ++ es)
  | _, _, _, _, .nil, h => h
  | _, _, _, _, .cons a r, h => .cons a (TgAll.app r h)
theorem TgAll.drop : ∀ {xs : List V} {ds : List PyData} (i : Nat), TgAll p H xs ds → TgAll p H (xs.drop i) (ds.drop i)
  | _, _, 0, h => h
  | _, _, i + 1, .nil => .nil
  | _, _, i + 1, .cons _ r => TgAll.drop i r
theorem TgAll.take : ∀ {xs : List V} {ds : List PyData} (i : Nat), TgAll p H xs ds → TgAll p H (xs.take i) (ds.take i)
  | _, _, 0, _ => .nil
  | _, _, i + 1, .nil => .nil
  | _, _, i + 1, .cons a r => .cons a (TgAll.take i r)
theorem TgAll.same {xs : List V} {ds : List PyData} (s : Same H H') (h : TgAll p H xs ds) : TgAll p H' xs ds := TgAll.but (But.of s) _ _ h
end
theorem ite_b {b : Bool} {p q : Prop} (h1 : b = true → p) (h2 : b = false → q) : if b = true then p else q := by
  cases b with
  | true => exact h1 rfl
  | false => exact h2 rfl
theorem smallB {n : Nat} (h : n ≤ 60000) : n < sizeLine := by
  rw [sizeLine_eq]
  omega
end My
set_option Elab.async false
set_option linter.all false
set_option maxRecDepth 100000
set_option maxHeartbeats 8000000
namespace My
open PySem PySem.Spec PyProof.Rows L2
local macro_rules | `(tactic| walk_at "lv") => `(tactic| first | exact Or.inl rfl | exact Or.inr rfl)
/-! ### words -/
open SX in
theorem starts1 (w : List Nat) (c : Nat) : Txt.startswith (S w) (S [c]) = (w.head? == some c) := by
  unfold Txt.startswith
  rw [Bool.eq_iff_iff, Bool.and_eq_true, decide_eq_true_eq]
  rw [show (0 + (S [c]).length ≤ (S w).length ∧ Builtin.Str.subAt (S w) (S [c]) 0 = true) ↔ (S w).cps.toList[0]? = some c from StrLaws.subAt_one (S w) c 0]
  show w[0]? = some c ↔ _
  cases w with
  | nil => simp
  | cons x r => simp
def dgW (w : List Nat) : List Nat := if (w.head? == some 45) = true then w.drop 1 else w
def isDg (c : Nat) : Bool := decide (c ∈ ([48, 49, 50, 51, 52, 53, 54, 55, 56, 57] : List Nat))
def plainB (w : List Nat) : Bool := decide (1 ≤ (dgW w).length) && (decide ((dgW w).length ≤ 6) && ((dgW w).all isDg && !((dgW w).head? == some 48 && decide (w ≠ [48]))))
/-- what plain_number says of the word w -/
def PlainIs (w : List Nat) (o : Option Int) : Prop := (plainB w = false ∧ o = none) ∨ (plainB w = true ∧ w.length ≤ 600 ∧ ∃ n, intText? (SX.S w) = some n ∧ o = some n)
def optI : Option Int → V
  | none => .non
  | some n => .int n
/-- the signs of a number -/
def wNum (n : Int) : List Nat := if n < 0 then 45 :: TL.numL n.natAbs else TL.numL n.natAbs
theorem str_num (n : Int) : Str.ofString (toString n) = SX.S (wNum n) := by
  unfold wNum
  by_cases h : n < 0
  · rw [if_pos h]
    obtain ⟨k, rfl⟩ : ∃ k, n = Int.negSucc k := by
      cases n with
      | ofNat a => exact absurd h (by simp)
      | negSucc k => exact ⟨k, rfl⟩
    refine TL.ext_tl ?_
    rw [TL.tl_ofString]
    show ("-" ++ Nat.repr (k + 1)).toList.map Char.toNat = 45 :: TL.numL (k + 1)
    rw [String.toList_append, List.map_append, Nat.toList_repr]
    rfl
  · rw [if_neg h]
    obtain ⟨m, rfl⟩ := Int.eq_ofNat_of_zero_le (by omega : 0 ≤ n)
    exact SX.num_S m
theorem dg_of {l : List Nat} (h : NumText.AllDigits l) : l.all isDg = true := by
  rw [List.all_eq_true]
  intro c hc
  have := h c hc
  refine decide_eq_true ?_
  have : c = 48 ∨ c = 49 ∨ c = 50 ∨ c = 51 ∨ c = 52 ∨ c = 53 ∨ c = 54 ∨ c = 55 ∨ c = 56 ∨ c = 57 := by omega
  simp only [List.mem_cons, List.not_mem_nil, or_false]
  exact this
theorem numL_head {n : Nat} (h : 0 < n) : (TL.numL n).head? ≠ some 48 := by
  induction n using Nat.strongRecOn with
  | _ n ih =>
    by_cases h1 : n < 10
    · rw [TL.numL_lt h1]
      show some (48 + n) ≠ some 48
      intro z
      have := Option.some.inj z
      omega
    · rw [TL.numL_step (by omega)]
      cases e : TL.numL (n / 10) with
      | nil => exact absurd e (TL.numL_ne _)
      | cons c r =>
        have := ih (n / 10) (by omega) (by omega)
        rw [e] at this
        exact this
theorem plain_num {n : Int} (h : n.natAbs < 10 ^ 6) : PlainIs (wNum n) (some n) := by
  have ln := TL.numL_len (n := n.natAbs) (k := 6) (by decide) h
  have nn := TL.numL_ne n.natAbs
  have ad := TL.numL_digits n.natAbs
  have l1 : 1 ≤ (TL.numL n.natAbs).length := List.length_pos_iff.mpr nn
  have val := TL.numL_val n.natAbs
  by_cases h0 : n < 0
  · have ew : wNum n = 45 :: TL.numL n.natAbs := by unfold wNum; rw [if_pos h0]
    have ed : dgW (wNum n) = TL.numL n.natAbs := by rw [ew]; rfl
    refine .inr ⟨?_, by rw [ew, List.length_cons]; omega, n, ?_, rfl⟩
    · unfold plainB
      rw [ed, decide_eq_true l1, decide_eq_true ln, dg_of ad]
      have := numL_head (n := n.natAbs) (by omega)
      rw [show ((TL.numL n.natAbs).head? == some 48) = false from by
        cases e : ((TL.numL n.natAbs).head? == some 48) with
        | false => rfl
        | true => exact absurd (eq_of_beq e) this]
      rfl
    · have e := intText_neg (x := SX.S (wNum n)) (cs := TL.numL n.natAbs) ew ad nn (by rw [SX.S_len, ew, List.length_cons]; omega)
      rw [e, val]
      congr 1
      omega
  · have ew : wNum n = TL.numL n.natAbs := by unfold wNum; rw [if_neg h0]
    have hh : ((wNum n).head? == some 45) = false := by
      rw [ew]
      cases e : TL.numL n.natAbs with
      | nil => exact absurd e nn
      | cons c r =>
        have := ad c (by rw [e]; exact List.mem_cons_self)
        show (some c == some 45) = false
        simp
        omega
    have ed : dgW (wNum n) = TL.numL n.natAbs := by
      unfold dgW
      rw [hh, if_neg Bool.false_ne_true, ew]
    refine .inr ⟨?_, by rw [ew]; omega, n, ?_, rfl⟩
    · unfold plainB
      rw [ed, decide_eq_true l1, decide_eq_true ln, dg_of ad, ew]
      by_cases z : n.natAbs = 0
      · rw [z, TL.numL_lt (by decide)]; rfl
      · have := numL_head (n := n.natAbs) (by omega)
        rw [show ((TL.numL n.natAbs).head? == some 48) = false from by
          cases e : ((TL.numL n.natAbs).head? == some 48) with
          | false => rfl
          | true => exact absurd (eq_of_beq e) this]
        rfl
    · have e := SX.int_S (a := wNum n) (by
        rw [ew, List.all_eq_true]
        intro c hc
        have := ad c hc
        rw [decide_eq_true this.1, decide_eq_true this.2]; rfl) (by rw [ew]; exact nn) (by rw [ew]; omega)
      rw [e, ew, val]
      congr 1
      omega
theorem plain_odd {w : List Nat} (h : plainB w = false) : PlainIs w none := .inl ⟨h, rfl⟩
theorem PlainIs.uniq {w : List Nat} {o o' : Option Int} (h : PlainIs w o) (h' : PlainIs w o') : o = o' := by
  rcases h with ⟨a, rfl⟩ | ⟨a, _, n, e, rfl⟩
  · rcases h' with ⟨b, rfl⟩ | ⟨b, _, m, e', rfl⟩
    · rfl
    · rw [a] at b; cases b
  · rcases h' with ⟨b, rfl⟩ | ⟨b, _, m, e', rfl⟩
    · rw [a] at b; cases b
    · rw [e] at e'; exact e'
end My
set_option Elab.async false
set_option linter.all false
set_option maxRecDepth 100000
set_option maxHeartbeats 8000000
namespace My
open PySem PySem.Spec PyProof.Rows L2
local macro_rules | `(tactic| walk_at "lv") => `(tactic| first | exact Or.inl rfl | exact Or.inr rfl)
section
variable {P : Program} {w : World} {K : PySem.W.Frag} {mg : Str → Option Value} {base : Heap}
/-! ### plain_number -/
def spPn : Sp := fun vs H Q _ => ∃ (u : List Nat) (o : Option Int), vs = [.str (SX.S u)] ∧ PlainIs u o ∧ u.length ≤ 1000000 ∧ ∀ H', Same H H' → Q (optI o) H'
abbrev s_pn : Stmt := top 7
abbrev N_pn : List Str := ["word", "digits", "digit"]
theorem sc_pn : FnScope N_pn ["word"] (defScope s_pn) := ⟨rfl, rfl, rfl, by decide +kernel, rfl, by decide +kernel, by decide +kernel⟩
theorem s_minus : ("-" : Str) = SX.S [45] := by kernel_rfl
theorem s_zero : ("0" : Str) = SX.S [48] := by kernel_rfl
theorem s_digits (c : Nat) : (!decide (c ∈ ("0123456789" : Str).cps.toList)) = !isDg c := by
  rw [show ("0123456789" : Str) = SX.S [48, 49, 50, 51, 52, 53, 54, 55, 56, 57] from by kernel_rfl]
  rfl
theorem kp_pn (F : At K mg "plain_number" s_pn) (N : Nb mg) (mDIGITS : ∃ t, mg "DIGITS" = some (.str "0123456789" t)) (mMOST_DIGITS : ∃ t, mg "MOST_DIGITS" = some (.int 6 t)) : Keeps CX0 P w K mg base "plain_number" 1 ["word"] spPn := by
  refine keeps_of F sc_pn (fun _ _ _ _ _ _ us hl => match us, hl with | [_], _ => rfl) (fun vs H Q E h => ?_) (fun f cdv A outer s H vs Q E hr h => ?_)
  · obtain ⟨u, o, rfl, _⟩ := h
    rfl
  · obtain ⟨u, o, rfl, ho, hl, k⟩ := h
    obtain ⟨tD, mDIGITS⟩ := mDIGITS
    obtain ⟨tM, mMOST_DIGITS⟩ := mMOST_DIGITS
    refine ⟨_, (C8.pss_cut (ps_set (i := 1) sc_pn.nd rfl (by walk_at "lv") (pe_ifExp (pt_val (pe_m1 PySem.F.slot_str_startswith PySem.F.type_str_startswith mt_startswith (pv 0) pe_str)) (pe_slice C8.sl_txt (pv 0) (po_some pe_int) po_none) (pv 0)))
        (pss_cons (ps_if (pt_not (pt_chain op_le op_le pe_int (pe_callB call_len_str (by rfl) N.len (by decide +kernel) (pa_cons (pv 1) pa_nil)) (pe_glob (v := .int 6) (by rfl) mMOST_DIGITS ⟨_, rfl⟩))) (pss_one (ps_ret pe_non)) pss_nil)
        (pss_cons (ps_if (pt_val (pe_callB (cr_any rfl) (by rfl) N.any (by decide +kernel) (pa_cons (pe_lc (own := [("digit", 2)]) (g := gName 2) (tt := tYes) rfl sc_pn.nd (pi_str (pv 1)) (blkOk_by (N := N_pn) (sc := defScope s_pn) (by decide +kernel)) (fun _ _ _ _ _ => (pg_name (i := 2) sc_pn.nd rfl (by walk_at "lv"))) (fun _ _ _ _ _ => pts_nil) (fun _ _ _ _ _ => (pe_cmpR op_notIn_sign (pv 2) (pe_glob (v := .str "0123456789") (by rfl) mDIGITS ⟨_, rfl⟩) (by rfl)))) pa_nil))) (pss_one (ps_ret pe_non)) pss_nil)
        (pss_cons (ps_if (PW.pt (pw_and (pt_val (pe_m1 PySem.F.slot_str_startswith PySem.F.type_str_startswith mt_startswith (pv 1) pe_str)) (pw_and1 (pt_cmpR op_ne (pv 0) pe_str (nomark _))))) (pss_one (ps_ret pe_non)) pss_nil)
        (pss_one (ps_ret (pe_callTy call_int_str (by rfl) N.int (by decide +kernel) (pa_cons (pv 0) pa_nil)))))))), ?_⟩
    have big : u.length ≤ sizeLine := by rw [sizeLine_eq]; omega
    have ld : (dgW u).length ≤ u.length := by
      unfold dgW
      split
      · rw [List.length_drop]; omega
      · exact Nat.le_refl _
    refine ⟨fun σ H' => σ = [some (.str (SX.S u)), some (.str (SX.S (dgW u))), none] ∧ H' = H, ?_, ?_⟩
    · refine ⟨_, rfl, ⟨_, rfl⟩, _, _, rfl, rfl, ?_⟩
      refine ⟨_, rfl, ite_b (fun hb => ?_) (fun hb => ?_)⟩
      · refine ⟨_, rfl, _, rfl, _, rfl, by rw [SX.S_len]; exact big, ?_⟩
        rw [SX.slice_from (by decide)]
        have e : dgW u = u.drop 1 := by
          unfold dgW
          rw [if_pos (by rw [← starts1, ← s_minus]; exact hb)]
        rw [e]
        exact ⟨rfl, rfl⟩
      · refine ⟨_, rfl, ?_⟩
        have e : dgW u = u := by
          unfold dgW
          rw [if_neg (by rw [← starts1, ← s_minus, hb]; exact Bool.false_ne_true)]
        rw [e]
        exact ⟨rfl, rfl⟩
    · rintro _ H0 ⟨rfl, e0⟩
      subst e0
      have ps : ∀ {o'}, PlainIs u o' → o' = o := fun h => h.uniq ho
      have no : ∀ H', Same H0 H' → plainB u = false → Q .non H' := fun H' s' h => by
        obtain rfl := ps (plain_odd h)
        exact k H' s'
      refine ⟨_, rfl, _, rfl, by rw [SX.S_len, sizeLine_eq]; rw [sizeLine_eq] at big; omega, _, _, rfl, rfl, _, rfl, ?_⟩
      rw [SX.S_len]
      refine ite_b (fun h1 => ?_) (fun h1 => ?_)
      · have h1 : (1 : Int) ≤ ((dgW u).length : Nat) := of_decide_eq_true h1
        refine ⟨_, _, rfl, rfl, _, rfl, ite_b (fun h2 => ?_) (fun h2 => ?_)⟩
        · have h2 : decide (((dgW u).length : Int) ≤ 6) = false := by rw [← Bool.not_not (decide _), h2]; rfl
          have h2 := of_decide_eq_false h2
          exact no H0 (Same.refl H0) (by unfold plainB; rw [decide_eq_false (p := (dgW u).length ≤ 6) (by omega), Bool.false_and, Bool.and_false])
        · have h2 : decide (((dgW u).length : Int) ≤ 6) = true := by rw [← Bool.not_not (decide _), h2]; rfl
          have h2 := of_decide_eq_true h2
          refine ⟨_, rfl, _, rfl, fun D hD => lc_it walk_str (fun i H3 => Same H0 H3 ∧ H3 D = some (.lst (((dgW u).take i).map fun c => V.bl (!isDg c)))) ⟨same_new (Same.refl H0) hD, upd_same⟩ (fun i H3 _ h => trivial) ?_ ?_⟩
          · rintro i v H3 H4 hi ⟨s3, e3⟩ ⟨rfl, c, ec, rfl⟩
            have ec : (dgW u)[i]? = some c := by rw [← Array.getElem?_toList] at ec; exact ec
            refine ⟨rfl, _, rfl, c, _, rfl, rfl, ?_⟩
            rw [s_digits]
            refine ⟨_, e3, (by rw [List.length_map, List.length_take, sizeLine_eq]; rw [sizeLine_eq] at big; omega), same_at s3 hD, ?_⟩
            rw [upd_same, take_snoc ec, List.map_append]
            rfl
          · rintro H3 ⟨s3, e3⟩
            rw [show (SX.S (dgW u)).cps.size = (dgW u).length from by simp, List.take_length] at e3
            refine ⟨D, (dgW u).map fun c => !isDg c, rfl, SqL.of (by rw [List.map_map]; exact e3), _, rfl, ite_b (fun h3 => ?_) (fun h3 => ?_)⟩
            · have h3 : (dgW u).all isDg = false := by
                rw [List.any_map, List.any_eq_true] at h3
                obtain ⟨c, hc, h4⟩ := h3
                have h4 : isDg c = false := by simpa using h4
                cases q : (dgW u).all isDg with
                | false => rfl
                | true => rw [List.all_eq_true.mp q c hc] at h4; cases h4
              exact no H3 s3 (by unfold plainB; rw [h3, Bool.false_and, Bool.and_false, Bool.and_false])
            · have h3 : (dgW u).all isDg = true := by
                rw [List.all_eq_true]
                intro c hc
                have : ((dgW u).map fun c => !isDg c).any id = false := h3
                rw [List.any_map, List.any_eq_false] at this
                have := this c hc
                simpa using this
              have pe : plainB u = !((dgW u).head? == some 48 && decide (u ≠ [48])) := by
                unfold plainB
                rw [decide_eq_true (p := 1 ≤ (dgW u).length) (by omega), decide_eq_true (p := (dgW u).length ≤ 6) (by omega), h3, Bool.true_and, Bool.true_and, Bool.true_and]
              have fin : plainB u = true → ∃ a n, ([V.str (SX.S u)] : List V) = [.str a] ∧ intText? a = some n ∧ a.length ≤ 640 ∧ Q (.int n) H3 := fun h => by
                rcases ho with ⟨h5, _⟩ | ⟨_, l6, n, h6, rfl⟩
                · rw [h] at h5; cases h5
                · exact ⟨_, n, rfl, h6, by rw [SX.S_len]; omega, k H3 s3⟩
              refine ⟨_, rfl, ⟨_, rfl⟩, _, _, rfl, rfl, _, rfl, ite_b (fun h4 => ?_) (fun h4 => ?_)⟩
              · rw [s_zero, starts1] at h4
                refine ⟨_, rfl, rfl, _, rfl, ite_b (fun h5 => ?_) (fun h5 => ?_)⟩
                · refine no H3 s3 ?_
                  have nz : u ≠ [48] := fun z => by
                    rw [z, ← s_zero, decide_eq_true rfl] at h5
                    cases h5
                  rw [pe, h4, decide_eq_true nz]
                  rfl
                · have nz : u = [48] := by
                    have h6 : decide (V.str (SX.S u) = V.str "0") = true := by
                      cases q : decide (V.str (SX.S u) = V.str "0") with
                      | true => rfl
                      | false =>
                        have h5 : (!decide (V.str (SX.S u) = V.str "0")) = false := h5
                        rw [q] at h5
                        cases h5
                    have h7 := V.str.inj (of_decide_eq_true h6)
                    rw [s_zero] at h7
                    exact SX.S_inj h7
                  refine ⟨_, rfl, fin ?_⟩
                  rw [pe, decide_eq_false (p := u ≠ [48]) (fun z => z nz), Bool.and_false]
                  rfl
              · rw [s_zero, starts1] at h4
                exact ⟨_, rfl, fin (by rw [pe, h4]; rfl)⟩
      · have h1 := of_decide_eq_false h1
        refine ⟨_, rfl, iteT ?_⟩
        exact no H0 (Same.refl H0) (by unfold plainB; rw [decide_eq_false (p := 1 ≤ (dgW u).length) (by omega), Bool.false_and])
end
end My
set_option Elab.async false
set_option linter.all false
set_option maxRecDepth 100000
set_option maxHeartbeats 8000000
namespace My
open PySem PySem.Spec PyProof.Rows L2
local macro_rules | `(tactic| walk_at "lv") => `(tactic| first | exact Or.inl rfl | exact Or.inr rfl)
/-- the numbers of a row of words -/
def sqI : List (Option Int) → Option (List Int)
  | [] => some []
  | none :: _ => none
  | some n :: r => (sqI r).map (n :: ·)
theorem sqI_some : ∀ {os : List (Option Int)} {ns : List Int}, sqI os = some ns → os.map optI = ns.map V.int
  | [], _, h => by cases h; rfl
  | none :: _, _, h => by cases h
  | some n :: r, ns, h => by
    unfold sqI at h
    cases e : sqI r with
    | none => rw [e] at h; cases h
    | some ms =>
      rw [e] at h
      cases h
      rw [List.map_cons, sqI_some e]
      rfl
theorem sqI_in (os : List (Option Int)) : inV .non (os.map optI) = (sqI os).isNone := by
  induction os with
  | nil => rfl
  | cons o r ih =>
    unfold inV at ih ⊢
    rw [List.map_cons, List.any_cons, ih]
    cases o with
    | none => rfl
    | some n =>
      show (false || (sqI r).isNone) = ((sqI r).map (n :: ·)).isNone
      cases sqI r <;> rfl
theorem flat_opts (os : List (Option Int)) : (os.map optI).all flatV = true := by
  rw [List.all_eq_true]
  intro v hv
  obtain ⟨o, _, rfl⟩ := List.mem_map.mp hv
  cases o <;> rfl
def PlainsAre (ws : List (List Nat)) (os : List (Option Int)) : Prop := os.length = ws.length ∧ ∀ (i : Nat) (u : List Nat) (o : Option Int), ws[i]? = some u → os[i]? = some o → PlainIs u o ∧ u.length ≤ 1000000
section
variable {P : Program} {w : World} {K : PySem.W.Frag} {mg : Str → Option Value} {base : Heap}
/-! ### plain_numbers -/
/-- None, or a new list of numbers -/
def NumEnd (H : Hp) (Q : VK) : Option (List Int) → Prop
  | none => ∀ H', Same H H' → Q .non H'
  | some ns => ∀ t H', Same H H' → H' t = some (.lst (ns.map V.int)) → H t = none → Q (.ref t) H'
def wordV (u : List Nat) : V := .str (SX.S u)
def spPns : Sp := fun vs H Q _ => ∃ (a : Addr) (ws : List (List Nat)) (os : List (Option Int)), vs = [.ref a] ∧ H a = some (.lst (ws.map wordV)) ∧ ws.length ≤ 60000 ∧ PlainsAre ws os ∧ NumEnd H Q (sqI os)
abbrev s_pns : Stmt := top 8
abbrev N_pns : List Str := ["words", "numbers", "word"]
theorem sc_pns : FnScope N_pns ["words"] (defScope s_pns) := ⟨rfl, rfl, rfl, by decide +kernel, rfl, by decide +kernel, by decide +kernel⟩
theorem kp_pns (F : At K mg "plain_numbers" s_pns) (N : Nb mg) (G : Keeps CX0 P w K mg base "plain_number" 1 ["word"] spPn) : Keeps CX0 P w K mg base "plain_numbers" 2 ["words"] spPns := by
  refine keeps_of F sc_pns (fun _ _ _ _ _ _ us hl => match us, hl with | [_], _ => rfl) (fun vs H Q E h => ?_) (fun f cdv A outer s H vs Q E hr h => ?_)
  · obtain ⟨a, ws, os, rfl, _⟩ := h
    rfl
  · obtain ⟨a, ws, os, rfl, ha, hl, ⟨lo, po⟩, k⟩ := h
    refine ⟨_, (pss_cons (ps_setLc (i := 1) (own := [("word", 2)]) (g := gName 2) (tt := tYes) rfl sc_pns.nd rfl rfl (sw_true rfl rfl rfl (by decide +kernel)) (pi_list (pv 0)) (blkOk_by (N := N_pns) (sc := defScope s_pns) (by decide +kernel)) (fun _ _ _ _ _ => (pg_name (i := 2) sc_pns.nd rfl (by walk_at "lv"))) (fun _ _ _ _ _ => pts_nil) (fun _ _ _ _ _ => (pe_k G hr (by rfl) pass0 (pa_cons (pv 2) pa_nil))))
        (pss_cons (ps_if (pt_cmpR op_in_seq pe_non (pv 1) (by rfl)) (pss_one (ps_ret pe_non)) pss_nil)
        (pss_one (ps_ret (pv 1))))), ?_⟩
    refine ⟨_, rfl, a, rfl, ⟨_, SqL.of ha⟩, fun D hD => ?_⟩
    have lw : (ws.map wordV).length = ws.length := List.length_map _
    refine lc_it walk_list (fun i H3 => Same H H3 ∧ H3 D = some (.lst ((os.take i).map optI))) ⟨same_new (Same.refl H) hD, upd_same⟩ (fun i H3 _ h => SqL.of (h.1 _ _ ha)) ?_ ?_
    · rintro i v H3 H4 hi ⟨s3, e3⟩ ⟨rfl, e4⟩
      rw [List.getElem?_map] at e4
      obtain ⟨u, eu, rfl⟩ := Option.map_eq_some_iff.mp e4
      rw [lw] at hi
      obtain ⟨o, eo⟩ : ∃ o, os[i]? = some o := ⟨_, List.getElem?_eq_getElem (by omega)⟩
      obtain ⟨h1, h2⟩ := po i u o eu eo
      refine ⟨rfl, _, rfl, u, o, rfl, h1, h2, fun H5 s5 => ?_⟩
      refine ⟨_, s5 _ _ e3, smallB (by rw [List.length_map, List.length_take]; omega), same_at (s3.trans s5) hD, ?_⟩
      rw [upd_same, take_snoc eo, List.map_append]
      rfl
    · rintro H3 ⟨s3, e3⟩
      rw [lw, List.take_of_length_le (by omega)] at e3
      refine ⟨_, rfl, D, _, rfl, .inl (SqL.of e3), rfl, flat_opts os, _, rfl, ?_⟩
      rw [if_neg Bool.false_ne_true, sqI_in]
      cases e : sqI os with
      | none =>
        rw [e] at k
        exact iteT (k H3 s3)
      | some ns =>
        rw [e] at k
        rw [sqI_some e] at e3
        exact iteF ⟨_, rfl, k D H3 s3 e3 hD⟩
end
end My
set_option Elab.async false
set_option linter.all false
set_option maxRecDepth 100000
set_option maxHeartbeats 8000000
namespace My
open PySem PySem.Spec PyProof.Rows L2
local macro_rules | `(tactic| walk_at "lv") => `(tactic| first | exact Or.inl rfl | exact Or.inr rfl)
/-! ### str of a text or a number -/
def rStr : List V → Hp → VK → Prop := fun xs H Q => (∃ i : Int, xs = [.int i] ∧ i.natAbs.log2 < 1920 ∧ Q (.str (SX.S (wNum i))) H) ∨ ∃ a, xs = [.str a] ∧ Q (.str a) H
theorem call_strA {X : L2.Cx} : CallR X (.type "str") rStr := by
  rintro pns s σ H xs us Q I r (⟨i, rfl, hi, q⟩ | ⟨a, rfl, q⟩)
  · exact call_str_int pns s σ H _ us Q I r ⟨i, rfl, hi, by rw [str_num]; exact q⟩
  · exact SkE.call_str_str pns s σ H _ us Q I r ⟨a, rfl, q⟩
/-- the word of a part -/
def PartW (v : V) (u : List Nat) : Prop := (∃ n : Int, v = .int n ∧ n.natAbs.log2 < 1920 ∧ u = wNum n) ∨ v = .str (SX.S u)
def PartsW (xs : List V) (ws : List (List Nat)) : Prop := ws.length = xs.length ∧ ∀ (i : Nat) v u, xs[i]? = some v → ws[i]? = some u → PartW v u
/-- the line of words -/
def lineW (ws : List (List Nat)) : List Nat := TL.joinL [32] ws
theorem partW_str {v : V} {u : List Nat} {H : Hp} {Q : VK} (h : PartW v u) (k : Q (.str (SX.S u)) H) : rStr [v] H Q := by
  rcases h with ⟨n, rfl, hn, rfl⟩ | rfl
  · exact .inl ⟨n, rfl, hn, k⟩
  · exact .inr ⟨_, rfl, k⟩
theorem s_sp : (" " : Str) = SX.S [32] := by kernel_rfl
theorem sum_le {ws : List (List Nat)} {m : Nat} (h : ∀ u ∈ ws, u.length ≤ m) : ((ws.map SX.S).map (·.length)).sum ≤ ws.length * m := by
  induction ws with
  | nil => simp
  | cons u r ih =>
    have h1 := h u List.mem_cons_self
    have h2 := ih fun v hv => h v (List.mem_cons_of_mem _ hv)
    rw [List.map_cons, List.map_cons, List.sum_cons, SX.S_len, List.length_cons, Nat.succ_mul]
    omega
theorem join_line {ws : List (List Nat)} : Txt.join (" " : Str) (ws.map SX.S) = SX.S (lineW ws) := by
  rw [s_sp]
  exact SX.join_S [32] ws
section
variable {P : Program} {w : World} {K : PySem.W.Frag} {mg : Str → Option Value} {base : Heap}
def spWr : Sp := fun vs H Q _ => ∃ (a : Addr) (xs : List V) (ws : List (List Nat)), vs = [.ref a] ∧ SqA H a xs ∧ PartsW xs ws ∧ ws.length ≤ 60 ∧ (∀ u ∈ ws, u.length ≤ 1000) ∧ ∀ H', Same H H' → Q (.str (SX.S (lineW ws))) H'
abbrev s_wr : Stmt := top 42
abbrev N_wr : List Str := ["item", "part"]
theorem sc_wr : FnScope N_wr ["item"] (defScope s_wr) := ⟨rfl, rfl, rfl, by decide +kernel, rfl, by decide +kernel, by decide +kernel⟩
theorem kp_wr (F : At K mg "_written" s_wr) (N : Nb mg) : Keeps CX0 P w K mg base "_written" 1 ["item"] spWr := by
  refine keeps_of F sc_wr (fun _ _ _ _ _ _ us hl => match us, hl with | [_], _ => rfl) (fun vs H Q E h => ?_) (fun f cdv A outer s H vs Q E hr h => ?_)
  · obtain ⟨a, xs, ws, rfl, _⟩ := h
    rfl
  · obtain ⟨a, xs, ws, rfl, ha, ⟨lw, pw⟩, hl, hw, k⟩ := h
    refine ⟨_, (pss_one (ps_ret (pe_join pe_str (pe_lc (own := [("part", 1)]) (g := gName 1) (tt := tYes) rfl sc_wr.nd (pi_seqV (pv 0)) (blkOk_by (N := N_wr) (sc := defScope s_wr) (by decide +kernel)) (fun _ _ _ _ _ => (pg_name (i := 1) sc_wr.nd rfl (by walk_at "lv"))) (fun _ _ _ _ _ => pts_nil) (fun _ _ _ _ _ => (pe_callTy (T := "str") (r := rStr) call_strA (by rfl) N.str (by decide +kernel) (pa_cons (pv 1) pa_nil))))))), ?_⟩
    refine ⟨⟨_, rfl⟩, a, xs, rfl, ha, fun J hw9 D hD => lc_it hw9 (fun i H3 => Same H H3 ∧ H3 D = some (.lst ((ws.take i).map wordV))) ⟨same_new (Same.refl H) hD, upd_same⟩ (fun i H3 _ h => by
      rcases ha with e | e <;> rw [h.1 _ _ e, e]) ?_ ?_⟩
    · rintro i v H3 H4 hi ⟨s3, e3⟩ ⟨rfl, e4⟩
      obtain ⟨u, eu⟩ : ∃ u, ws[i]? = some u := ⟨_, List.getElem?_eq_getElem (by omega)⟩
      refine ⟨rfl, _, rfl, ?_⟩
      dsimp only [tNil]
      refine partW_str (pw i v u e4 eu) ?_
      refine ⟨_, e3, smallB (by rw [List.length_map, List.length_take]; omega), same_at s3 hD, ?_⟩
      rw [upd_same, take_snoc eu, List.map_append]
      rfl
    · rintro H3 ⟨s3, e3⟩
      rw [List.take_of_length_le (by omega)] at e3
      refine ⟨_, D, ws.map SX.S, rfl, rfl, .inl (SqL.of (by rw [List.map_map]; exact e3)), ?_, ?_⟩
      · have := sum_le (m := 1000) hw
        have e1 : (" " : Str).length = 1 := by rw [s_sp, SX.S_len]; rfl
        rw [e1, List.length_map]
        omega
      · rw [join_line]
        exact k H3 s3
/-! ### write_letter, write_test -/
abbrev s_wrl : Stmt := top 40
abbrev N_wrl : List Str := ["letter"]
theorem sc_wrl : FnScope N_wrl ["letter"] (defScope s_wrl) := ⟨rfl, rfl, rfl, by decide +kernel, rfl, by decide +kernel, by decide +kernel⟩
abbrev s_wrt : Stmt := top 41
abbrev N_wrt : List Str := ["test"]
theorem sc_wrt : FnScope N_wrt ["test"] (defScope s_wrt) := ⟨rfl, rfl, rfl, by decide +kernel, rfl, by decide +kernel, by decide +kernel⟩
theorem kp_wrl (F : At K mg "write_letter" s_wrl) (G : Keeps CX0 P w K mg base "_written" 1 ["item"] spWr) : Keeps CX0 P w K mg base "write_letter" 2 ["letter"] spWr := by
  refine keeps_of F sc_wrl (fun _ _ _ _ _ _ us hl => match us, hl with | [_], _ => rfl) (fun vs H Q E h => ?_) (fun f cdv A outer s H vs Q E hr h => ?_)
  · obtain ⟨a, xs, ws, rfl, _⟩ := h
    rfl
  · obtain ⟨a, xs, ws, rfl, h⟩ := h
    refine ⟨_, (pss_one (ps_ret (pe_k G hr (by rfl) pass0 (pa_cons (pv 0) pa_nil)))), ?_⟩
    exact ⟨_, rfl, a, xs, ws, rfl, h⟩
theorem kp_wrt (F : At K mg "write_test" s_wrt) (G : Keeps CX0 P w K mg base "_written" 1 ["item"] spWr) : Keeps CX0 P w K mg base "write_test" 2 ["test"] spWr := by
  refine keeps_of F sc_wrt (fun _ _ _ _ _ _ us hl => match us, hl with | [_], _ => rfl) (fun vs H Q E h => ?_) (fun f cdv A outer s H vs Q E hr h => ?_)
  · obtain ⟨a, xs, ws, rfl, _⟩ := h
    rfl
  · obtain ⟨a, xs, ws, rfl, h⟩ := h
    refine ⟨_, (pss_one (ps_ret (pe_k G hr (by rfl) pass0 (pa_cons (pv 0) pa_nil)))), ?_⟩
    exact ⟨_, rfl, a, xs, ws, rfl, h⟩
end
end My
set_option Elab.async false
set_option linter.all false
set_option maxRecDepth 100000
set_option maxHeartbeats 8000000
namespace My
open PySem PySem.Spec PyProof.Rows L2
local macro_rules | `(tactic| walk_at "lv") => `(tactic| first | exact Or.inl rfl | exact Or.inr rfl)
def rNinT (K : PySem.W.Frag) : R2 := fun x y H Q => ∃ d ds, Dp K H x d ∧ Dp K H y (.tuple ds) ∧ SeqAt.shaped d = true ∧ SeqAt.shaped (.tuple ds) = true ∧ Q (.bl (!ds.any fun z => PyData.eqv z d)) H
theorem op_ninT {X : L2.Cx} (hu : X.A.units + 65 < cLine) : OpR X (compareOp .NotIn) (rNinT X.K) := by
  rintro pns s σ H x y v u Q I rx ry ⟨d, ds, hd, he, sd, se, q⟩
  obtain ⟨as, r1⟩ := Dp.reads I d x v hd rx
  obtain ⟨bs, r2⟩ := Dp.reads I (.tuple ds) y u he ry
  exact SeqAt.notIn_tuple_reads r2 r1 (SeqAt.canLay_of_shaped se) (SeqAt.canLay_of_shaped sd) (room_in_shaped sd hu) ⟨.bl _, H, I, rfl, q⟩
/-- the forms of a kind of line: its word, how many numbers -/
abbrev Forms := List (List Nat × Nat)
def lfD (f : List Nat × Nat) : PyData := .tuple [.str (SX.S f.1), .int (f.2 : Int)]
def formsD (fs : Forms) : PyData := .tuple (fs.map lfD)
def itemOf : List (List Nat) → Forms → List (Option Int) → Option (List Nat × List Int)
  | [], _, _ => none
  | u :: r, fs, os => if (u, r.length) ∈ fs then (sqI os).map fun ns => (u, ns) else none
theorem any_form (fs : Forms) (u : List Nat) (n : Nat) : ((fs.map lfD).any fun z => PyData.eqv z (lfD (u, n))) = decide ((u, n) ∈ fs) := by
  induction fs with
  | nil => rfl
  | cons f r ih =>
    rw [List.map_cons, List.any_cons, ih]
    have : PyData.eqv (lfD f) (lfD (u, n)) = decide (f = (u, n)) := by
      obtain ⟨a, b⟩ := f
      show PyData.eqv (.tuple [.str (SX.S a), .int (b : Int)]) (.tuple [.str (SX.S u), .int (n : Int)]) = _
      rw [Bool.eq_iff_iff]
      simp only [PyData.eqv, PyData.eqvAll, Bool.and_true, Bool.and_eq_true, decide_eq_true_eq, beq_iff_eq, Prod.mk.injEq]
      constructor
      · rintro ⟨h1, h2⟩
        exact ⟨SX.S_inj h1, by omega⟩
      · rintro ⟨rfl, rfl⟩
        exact ⟨rfl, rfl⟩
    rw [this]
    by_cases h : f = (u, n)
    · rw [decide_eq_true (p := f = (u, n)) h, decide_eq_true (p := (u, n) ∈ f :: r) (by rw [h]; exact List.mem_cons_self), Bool.true_or]
    · rw [decide_eq_false h, Bool.false_or]
      by_cases h2 : (u, n) ∈ r
      · rw [decide_eq_true (p := (u, n) ∈ r) h2, decide_eq_true (p := (u, n) ∈ f :: r) (List.mem_cons_of_mem _ h2)]
      · rw [decide_eq_false (p := (u, n) ∈ r) h2, decide_eq_false (p := (u, n) ∈ f :: r) fun z => by
          rcases List.mem_cons.mp z with z | z
          · exact h z.symm
          · exact h2 z]
section
variable {P : Program} {w : World} {K : PySem.W.Frag} {mg : Str → Option Value} {base : Heap}
/-! ### _item_of_words -/
def ItemEnd (H : Hp) (Q : VK) : Option (List Nat × List Int) → Prop
  | none => ∀ H', Same H H' → Q .non H'
  | some (u, ns) => ∀ t H', Same H H' → H' t = some (.tup (.str (SX.S u) :: ns.map V.int)) → H t = none → Q (.ref t) H'
def spIow (K : PySem.W.Frag) : Sp := fun vs H Q _ => ∃ (a b : Addr) (ws : List (List Nat)) (fs : Forms) (os : List (Option Int)), vs = [.ref a, .ref b] ∧ H a = some (.lst (ws.map wordV)) ∧ ws.length ≤ 60000 ∧ (∀ H', Same H H' → Dp K H' (.ref b) (formsD fs)) ∧ SeqAt.shaped (formsD fs) = true ∧
  (∀ u r, ws = u :: r → SeqAt.shaped (.str (SX.S u)) = true) ∧ PlainsAre ws.tail os ∧ ItemEnd H Q (itemOf ws fs os)
abbrev s_iow : Stmt := top 43
abbrev N_iow : List Str := ["words", "forms", "numbers"]
theorem sc_iow : FnScope N_iow ["words", "forms"] (defScope s_iow) := ⟨rfl, rfl, rfl, by decide +kernel, rfl, by decide +kernel, by decide +kernel⟩
theorem kp_iow (F : At K mg "_item_of_words" s_iow) (N : Nb mg) (G : Keeps CX0 P w K mg base "plain_numbers" 2 ["words"] spPns) : Keeps CX0 P w K mg base "_item_of_words" 3 ["words", "forms"] (spIow K) := by
  refine keeps_of F sc_iow (fun _ _ _ _ _ _ us hl => match us, hl with | [_, _], _ => rfl) (fun vs H Q E h => ?_) (fun f cdv A outer s H vs Q E hr h => ?_)
  · obtain ⟨a, b, ws, fs, os, rfl, _⟩ := h
    rfl
  · obtain ⟨a, b, ws, fs, os, rfl, ha, hl, df, sf, su, po, k⟩ := h
    have hu : (A.deeper (envOfC "_item_of_words" (defScope s_iow) s.heap.objs.size f cdv)).units + 65 < cLine := by have := hr.un; omega
    refine ⟨_, (pss_cons (ps_if (PW.pt (pw_or (pt_not (pt_truth (pv 0) (fun _ => rfl))) (pw_or1 (pt_cmpR (op_ninT hu) (pe_tup (pa_cons (pe_ix ix_list (pv 0) pe_int (fun _ _ => rfl)) (pa_cons (pe_op op_sub (pe_callB call_len_seq (by rfl) N.len (by decide +kernel) (pa_cons (pv 0) pa_nil)) pe_int) pa_nil))) (pv 1) (by rfl))))) (pss_one (ps_ret pe_non)) pss_nil)
        (pss_cons (ps_set (i := 2) sc_iow.nd rfl (by walk_at "lv") (pe_k G hr (by rfl) pass0 (pa_cons (pe_slice sl_list (pv 0) (po_some pe_int) po_none) pa_nil)))
        (pss_cons (ps_if (pt_cmpR op_isN (pv 2) pe_non (nomark _)) (pss_one (ps_ret pe_non)) pss_nil)
        (pss_one (ps_ret (pe_tup (pa_cons (pe_ix ix_list (pv 0) pe_int (fun _ _ => rfl)) (StX.pa_star (pv 2) pa_nil)))))))), ?_⟩
    cases ws with
    | nil => exact ⟨_, rfl, _, truA (.inl ha), iteT (iteT (k H (Same.refl H)))⟩
    | cons u r =>
      have lr : ((r.length : Nat) : Int) = ((u :: r).map wordV).length - 1 := by rw [List.length_map, List.length_cons]; omega
      refine ⟨_, rfl, _, truA (.inl ha), iteF ?_⟩
      refine ⟨_, rfl, a, _, _, _, rfl, rfl, SqL.of ha, at_head, _, rfl, a, _, rfl, lenA (.inl ha), _, _, rfl, rfl, (by show 2 ≤ sizeLine; decide), fun t nt => ?_⟩
      have s1 := same_new (o := .tup [wordV u, V.int (((u :: r).map wordV).length - 1)]) (Same.refl H) nt
      refine ⟨_, rfl, lfD (u, r.length), _, .tup (SqT.of upd_same) (.cons (.str _) (.cons (show Dp K _ (V.int (((u :: r).map wordV).length - 1)) (.int ((r.length : Nat) : Int)) from by rw [← lr]; exact .int _) .nil)), df _ s1, ?_, sf, _, rfl, ?_⟩
      · exact (small_tup (n := 60) fun d hd => by
          rcases List.mem_cons.mp hd with rfl | hd
          · have := su u r rfl
            unfold SeqAt.shaped at this
            obtain ⟨h1, _⟩ := and_ok this
            exact ⟨h1, Nat.le_of_ble_eq_true (by kernel_rfl)⟩
          · rw [List.mem_singleton.mp hd]
            exact ⟨by kernel_rfl, Nat.le_of_ble_eq_true (by kernel_rfl)⟩).shaped (by decide)
      · rw [any_form]
        have k : ItemEnd H Q (if (u, r.length) ∈ fs then (sqI os).map fun ns => (u, ns) else none) := k
        by_cases h : (u, r.length) ∈ fs
        · rw [decide_eq_true h]
          rw [if_pos h] at k
          refine iteF ?_
          have a1 := s1 _ _ ha
          refine ⟨_, rfl, _, rfl, a, _, rfl, SqL.of a1, fun D hD => ?_⟩
          have ct : cutV ((u :: r).map wordV) (some 1) none = r.map wordV := cut_from (i := 1)
          rw [ct]
          have s2 := same_new (o := .lst (r.map wordV)) s1 hD
          refine ⟨D, r, os, rfl, upd_same, by rw [List.length_cons] at hl; omega, po, ?_⟩
          cases e : sqI os with
          | none =>
            rw [e] at k
            exact fun H3 s3 => ⟨_, rfl, rfl, _, rfl, iteT (k H3 (s2.trans s3))⟩
          | some ns =>
            rw [e] at k
            intro t3 H3 s3 e3 n3
            have ln : ns.length ≤ 60000 := by
              have := congrArg List.length (sqI_some e)
              rw [List.length_map, List.length_map, po.1] at this
              rw [List.length_cons] at hl
              show _ ≤ _
              have lt : (u :: r).tail.length = r.length := rfl
              omega
            refine ⟨_, rfl, rfl, _, rfl, iteF ?_⟩
            have a3 := s3 _ _ (same_new (o := .lst (r.map wordV)) (Same.refl _) hD _ _ a1)
            refine ⟨_, rfl, a, _, _, _, rfl, rfl, SqL.of a3, at_head, _, rfl, t3, ns.map V.int, rfl, .inr (SqL.of e3), (by rw [List.append_nil]; show _ + 1 ≤ sizeLine; rw [List.length_map, sizeLine_eq]; omega), fun t4 n4 => ?_⟩
            refine k t4 _ (same_new (s2.trans s3) n4) ?_ ((s2.trans s3).free n4)
            rw [upd_same, List.append_nil]
            rfl
        · rw [decide_eq_false h]
          rw [if_neg h] at k
          exact iteT (k _ s1)
end
end My
set_option Elab.async false
set_option linter.all false
set_option maxRecDepth 100000
set_option maxHeartbeats 8000000
namespace My
open PySem PySem.Spec PyProof.Rows L2
local macro_rules | `(tactic| walk_at "lv") => `(tactic| first | exact Or.inl rfl | exact Or.inr rfl)
section
variable {P : Program} {w : World} {K : PySem.W.Frag} {mg : Str → Option Value} {base : Heap}
/-! ### the errors with attributes -/
theorem ki_BadLot (F : AtI K "BadLot" "BadLot.__init__" (inClass (top 11) 0)) (T : ExF K mg "BadLot" "BookError" ["what"]) : KeepsI P w K mg base "BadLot" ["what"] := by
  refine ini_of F ⟨rfl, rfl, rfl, by decide +kernel, rfl, by decide +kernel, by decide +kernel⟩ (fun _ _ _ _ _ _ us hl => match us, hl with | [_, _], _ => rfl) (fun fd cdv A outer s H vs Q E h => ?_)
  obtain ⟨a, ys, rfl, hl, ha, k⟩ := h
  obtain ⟨y, rfl⟩ := one_of hl
  refine ⟨_, pss_one (ps_ost (pv 0) (pv 1)), ?_⟩
  refine ⟨_, rfl, _, rfl, a, _, rfl, T.ox, T.no _ (by decide), .inl ⟨ha, fun d hd hne => ?_⟩⟩
  refine k d _ hd hne upd_same ?_ fun b o hb e => ?_
  · rw [upd_ne hne, upd_same]
    rfl
  · rw [upd_ne hb, upd_ne (ne_of_none e hd)]
    exact e
theorem ki_BadText (F : AtI K "BadText" "BadText.__init__" (inClass (top 13) 0)) (T : ExF K mg "BadText" "BookError" ["line", "what"]) : KeepsI P w K mg base "BadText" ["line", "what"] := by
  refine ini_of F ⟨rfl, rfl, rfl, by decide +kernel, rfl, by decide +kernel, by decide +kernel⟩ (fun _ _ _ _ _ _ us hl => match us, hl with | [_, _, _], _ => rfl) (fun fd cdv A outer s H vs Q E h => ?_)
  obtain ⟨a, ys, rfl, hl, ha, k⟩ := h
  obtain ⟨y, z, rfl⟩ := two_of hl
  refine ⟨_, pss_cons (ps_ost (pv 0) (pv 1)) (pss_one (ps_ost (pv 0) (pv 2))), ?_⟩
  refine ⟨_, rfl, _, rfl, a, _, rfl, T.ox, T.no _ (by decide), .inl ⟨ha, fun d hd hne => ?_⟩⟩
  refine ⟨_, rfl, _, rfl, a, _, rfl, T.ox, T.no _ (by decide), .inr ⟨d, _, upd_same, (by rw [upd_ne hne, upd_same]), (by show 1 ≤ 900; decide), ?_⟩⟩
  refine k d _ hd hne ?_ upd_same fun b o hb e => ?_
  · rw [upd_ne hne.symm, upd_same]
  · rw [upd_ne (ne_of_none e hd), upd_ne hb, upd_ne (ne_of_none e hd)]
    exact e
/-- an error class with the attributes fs -/
structure ErrA (P : Program) (w : World) (K : PySem.W.Frag) (mg : Str → Option Value) (base : Heap) (x : Str) (fs : List Str) : Prop where
  xt : ExF K mg x "BookError" fs
  xi : KeepsI P w K mg base x fs
theorem pmk_e {X : L2.Cx} {k : Nat} {x : Str} {f0 : Str} {fs : List Str} {e : Expr} {es : List Expr} {ta : TA} {p pos : Pos} (S : ErrA X.prog X.w X.K X.mg X.base x (f0 :: fs)) (hr : Room (k + 2) X.A) (hg : Gl X x) (ha : PA X (e :: es) ta)
    (dbg : (x == ("__debug__" : Str)) = false := by decide) (hst : starEach (e :: es) X.env = (false, eval e X.env) :: starEach es X.env := by rfl) (hpl : (backTo pos (starEach es X.env)).any (·.1) = false := by rfl) :
    PMk X (.Call (.Name x p) (e :: es) [] pos) (fun σ H W => tMkO (He.ga X.K x) (spIni (He.ga X.K x) (f0 :: fs)) [] ta σ H W) := by
  obtain ⟨fd, F, b⟩ := S.xi
  obtain ⟨iC, tI⟩ := S.xt.ini (fun z => nomatch z)
  exact pmk_oex S.xt.ox iC tI F (hr.mono (by omega)) b .nil pass0 hg S.xt.g ha dbg hst hpl
end
/-- x(..) with these attributes goes out -/
def OutA (K : PySem.W.Frag) (E : XK) (H : Hp) (x : Str) (fs : List (Str × V)) : Prop := ∀ d H', Same H H' → H' d = some (.xd fs) → E (.ref (He.ga K x)) (some d) H'
def Out0 (K : PySem.W.Frag) (E : XK) (H : Hp) (x : Str) : Prop := ∀ H', Same H H' → E (.ref (He.ga K x)) none H'
theorem OutA.same {K : PySem.W.Frag} {E : XK} {H H' : Hp} {x : Str} {fs : List (Str × V)} (s : Same H H') (h : OutA K E H x fs) : OutA K E H' x fs := fun d H2 s2 e => h d H2 (s.trans s2) e
theorem Out0.same {K : PySem.W.Frag} {E : XK} {H H' : Hp} {x : Str} (s : Same H H') (h : Out0 K E H x) : Out0 K E H' x := fun H2 s2 => h H2 (s.trans s2)
end My
set_option Elab.async false
set_option linter.all false
set_option maxRecDepth 100000
set_option maxHeartbeats 8000000
namespace My
open PySem PySem.Spec PyProof.Rows L2
local macro_rules | `(tactic| walk_at "lv") => `(tactic| first | exact Or.inl rfl | exact Or.inr rfl)
def isStrD : PyData → Bool
  | .str _ => true
  | _ => false
theorem isi_str {K : PySem.W.Frag} {H : Hp} {x : V} {d : PyData} {Q : VK} (h : Dp K H x d) (k : Q (.bl (isStrD d)) H) : rIsi K [x, .ty "str"] H Q := by
  have ty := dp_ty h
  cases h with
  | int a => exact ⟨_, .ty "str", _, _, false, rfl, .ty "str", ty, kit_ty (a := "int") (by decide +kernel), k⟩
  | bl b => exact ⟨_, .ty "str", _, _, false, rfl, .ty "str", ty, kit_ty (a := "bool") (by decide +kernel), k⟩
  | non => exact ⟨_, .ty "str", _, _, false, rfl, .ty "str", ty, kit_ty (a := "NoneType") (by decide +kernel), k⟩
  | str z => exact ⟨_, .ty "str", _, _, true, rfl, .ty "str", ty, kit_ty (a := "str") (by decide +kernel), k⟩
  | lst _ _ => exact ⟨_, .ty "str", _, _, false, rfl, .ty "str", ty, kit_ty (a := "list") (by decide +kernel), k⟩
  | tup _ _ => exact ⟨_, .ty "str", _, _, false, rfl, .ty "str", ty, kit_ty (a := "tuple") (by decide +kernel), k⟩
/-- the words of a thing that may be a text -/
def TextIs (d : PyData) (o : Option (List (List Nat))) : Prop := (∃ z ws, d = .str z ∧ z.length ≤ 1000000 ∧ o = some ws ∧ Txt.split z (" " : Str) = ws.map SX.S) ∨ (isStrD d = false ∧ o = none)
theorem text_of {ws : List (List Nat)} (h : ∀ u ∈ ws, 32 ∉ u) (ne : ws ≠ []) (l : (lineW ws).length ≤ 1000000) : TextIs (.str (SX.S (lineW ws))) (some ws) := by
  refine .inl ⟨_, ws, rfl, by rw [SX.S_len]; exact l, rfl, ?_⟩
  rw [← join_line]
  refine TL.split_join (s := 32) (S := []) (by rw [s_sp]) (by rw [s_sp]; kernel_rfl) (fun z => ne (List.map_eq_nil_iff.mp z)) fun p hp => ?_
  obtain ⟨u, hu, rfl⟩ := List.mem_map.mp hp
  exact h u hu
section
variable {P : Program} {w : World} {K : PySem.W.Frag} {mg : Str → Option Value} {base : Heap}
/-! ### _read_item -/
def lineBad : List (Str × V) := [("what", .str "line"), ("line", .int 1)]
def ReadIt (H : Hp) (Q : VK) (out : Prop) : Option (List Nat × List Int) → Prop
  | none => out
  | some (u, ns) => ∀ t H', Same H H' → H' t = some (.tup (.str (SX.S u) :: ns.map V.int)) → H t = none → Q (.ref t) H'
def itemD (o : Option (List (List Nat))) (fs : Forms) (os : List (Option Int)) : Option (List Nat × List Int) := match o with
  | none => none
  | some ws => itemOf ws fs os
structure WordsOk (o : Option (List (List Nat))) (os : List (Option Int)) : Prop where
  n : ∀ ws, o = some ws → ws.length ≤ 60000
  s : ∀ ws, o = some ws → ∀ u r, ws = u :: r → SeqAt.shaped (.str (SX.S u)) = true
  p : ∀ ws, o = some ws → PlainsAre ws.tail os
def spRi (K : PySem.W.Frag) : Sp := fun vs H Q E => ∃ (p b : Addr) (v : V) (d : PyData) (fs : Forms) (o : Option (List (List Nat))) (os : List (Option Int)), vs = [v, .ref b] ∧ Tg p H v d ∧ TextIs d o ∧ (∀ H', Same H H' → Dp K H' (.ref b) (formsD fs)) ∧ SeqAt.shaped (formsD fs) = true ∧ WordsOk o os ∧
  ReadIt H Q (OutA K E H "BadText" lineBad) (itemD o fs os)
abbrev s_ri : Stmt := top 46
abbrev N_ri : List Str := ["text", "forms", "item"]
theorem sc_ri : FnScope N_ri ["text", "forms"] (defScope s_ri) := ⟨rfl, rfl, rfl, by decide +kernel, rfl, by decide +kernel, by decide +kernel⟩
theorem kp_ri (F : At K mg "_read_item" s_ri) (N : Nb mg) (S : ErrA P w K mg base "BadText" ["line", "what"]) (G : Keeps CX0 P w K mg base "_item_of_words" 3 ["words", "forms"] (spIow K)) : Keeps (CX P w) P w K mg base "_read_item" 4 ["text", "forms"] (spRi K) := by
  refine keeps_ofX F sc_ri (fun _ _ _ _ _ _ us hl => match us, hl with | [_, _], _ => rfl) (fun vs H Q E h => ?_) (fun f cdv A outer s H vs Q E hr h => ?_)
  · obtain ⟨p, b, v, d, fs, o, os, rfl, _⟩ := h
    rfl
  · obtain ⟨p, b, v, d, fs, o, os, rfl, tv, tx, df, sf, wo, k⟩ := h
    have h2 : Room 2 (A.deeper (envOfC "_read_item" (defScope s_ri) s.heap.objs.size f cdv)) := hr.mono (by decide)
    refine ⟨_, (C8.pss_cut (ps_set (i := 2) sc_ri.nd rfl (by walk_at "lv") (pe_ifExp (pt_val (pe_callB call_isi (by rfl) N.isinstance boot_isinstance (pa_cons (pv 0) (pa_cons (pe_bltn (v := .ty "str") (by rfl) N.str (by decide +kernel) rfl) pa_nil)))) (pe_k G hr (by rfl) pass0 (pa_cons (pe_split (pv 0) pe_str) (pa_cons (pv 1) pa_nil))) pe_non))
        (pss_cons (ps_if (pt_cmpR op_isN (pv 2) pe_non (nomark _)) (pss_one (ps_raise rfl (takes_of rfl rfl rfl rfl) (by exact pmk_e S h2 (by rfl) (pa_cons pe_int (pa_cons pe_str pa_nil))))) pss_nil)
        (pss_one (ps_ret (pv 2))))), ?_⟩
    refine ⟨fun σ H' => ∃ y, σ = [some v, some (.ref b), some y] ∧ Same H H' ∧ ((itemD o fs os = none ∧ y = .non) ∨ ∃ u ns t, itemD o fs os = some (u, ns) ∧ y = .ref t ∧ H' t = some (.tup (.str (SX.S u) :: ns.map V.int)) ∧ H t = none), ?_, ?_⟩
    · refine ⟨_, rfl, ?_⟩
      dsimp only [tNil, tCons, tC]
      refine isi_str tv.dp ?_
      refine ⟨_, rfl, ?_⟩
      rcases tx with ⟨z, ws, rfl, lz, rfl, sp⟩ | ⟨nd, rfl⟩
      · cases tv
        refine iteT ?_
        refine ⟨_, rfl, ⟨_, rfl⟩, z, _, rfl, rfl, (by rw [s_sp, SX.S_len]; rfl), (by rw [sizeLine_eq]; omega), fun a na => ?_⟩
        have s1 := same_new (o := .lst ((Txt.split z (" " : Str)).map V.str)) (Same.refl H) na
        refine ⟨_, rfl, a, b, ws, fs, os, rfl, by rw [upd_same, sp, List.map_map]; rfl, wo.n _ rfl, fun H2 s2 => df _ (s1.trans s2), sf, wo.s _ rfl, wo.p _ rfl, ?_⟩
        show ItemEnd _ _ (itemOf ws fs os)
        cases e : itemOf ws fs os with
        | none => exact fun H2 s2 => ⟨.non, rfl, s1.trans s2, .inl ⟨e, rfl⟩⟩
        | some un =>
          obtain ⟨u, ns⟩ := un
          exact fun t H2 s2 et nt => ⟨.ref t, rfl, s1.trans s2, .inr ⟨u, ns, t, e, rfl, et, s1.free nt⟩⟩
      · rw [nd]
        exact iteF ⟨.non, rfl, Same.refl H, .inl ⟨rfl, rfl⟩⟩
    · rintro _ H1 ⟨y, rfl, s1, ⟨e, rfl⟩ | ⟨u, ns, t, e, rfl, et, nt⟩⟩
      · rw [e] at k
        have k : OutA K E H "BadText" lineBad := k
        refine ⟨_, rfl, rfl, _, rfl, iteT ?_⟩
        exact mko_ok (K := K) (ys := [.int 1, .str "line"]) (fun _ q => q) rfl (by show 2 ≤ 1000; decide) fun dd H2 s2 ed => k dd H2 (s1.trans s2) ed
      · rw [e] at k
        exact ⟨_, rfl, rfl, _, rfl, iteF ⟨_, rfl, k t H1 s1 et nt⟩⟩
end
end My
set_option Elab.async false
set_option linter.all false
set_option maxRecDepth 100000
set_option maxHeartbeats 8000000
namespace My
open PySem PySem.Spec PyProof.Rows L2
local macro_rules | `(tactic| walk_at "lv") => `(tactic| first | exact Or.inl rfl | exact Or.inr rfl)
section
variable {P : Program} {w : World} {K : PySem.W.Frag} {mg : Str → Option Value} {base : Heap}
/-! ### check_letter, check_test of a new tuple -/
def spChT (K : PySem.W.Frag) (f : PyData → Bool) (x : Str) : Sp := fun vs H Q E => ∃ (p t : Addr) (xs : List V) (d : PyData), vs = [.ref t] ∧ H t = some (.tup xs) ∧ Tg p H (.ref t) d ∧ (f d = false → Out0 K E H x) ∧ (f d = true → ∀ H', Same H H' → Q (.ref t) H')
structure Err1 (K : PySem.W.Frag) (mg : Str → Option Value) (x : Str) : Prop where
  f : ExF K mg x "BookError" []
  c : ExcC K (He.ga K x)
  xm : PySem.W.exmOne K (.ref (He.ga K x)) (.ref (He.ga K x)) = some true
  gb : mg "BookError" = some (.ref (He.ga K "BookError"))
abbrev s_chl : Stmt := top 35
abbrev N_chl : List Str := ["letter"]
theorem sc_chl : FnScope N_chl ["letter"] (defScope s_chl) := ⟨rfl, rfl, rfl, by decide +kernel, rfl, by decide +kernel, by decide +kernel⟩
theorem kp_chl (F : At K mg "check_letter" s_chl) (N : Nb mg) (T : Err1 K mg "BadLetter") (Gf : Keeps CX0 P w K mg base "fits_letter" 3 ["letter"] (spFitT K flT)) : Keeps (CX P w) P w K mg base "check_letter" 4 ["letter"] (spChT K flT "BadLetter") := by
  refine keeps_ofX F sc_chl (fun _ _ _ _ _ _ us hl => match us, hl with | [_], _ => rfl) (fun vs H Q E h => ?_) (fun f cdv A outer s H vs Q E hr h => ?_)
  · obtain ⟨p, t, xs, d, rfl, _⟩ := h
    rfl
  · obtain ⟨p, t, xs, d, rfl, ht, tg, kf, kt⟩ := h
    refine ⟨_, (pss_cons (ps_if (pt_not (pt_val (pe_k Gf hr (by rfl) pass0 (pa_cons (pv 0) pa_nil)))) (pss_one (ps_raise rfl (takes_of rfl rfl rfl rfl) (pmk0 T.f (by rfl)))) pss_nil)
        (pss_one (ps_ret (pe_callTy call_tuple_of (by rfl) N.tuple (by decide +kernel) (pa_cons (pv 0) pa_nil))))), ?_⟩
    refine ⟨_, rfl, p, .ref t, d, rfl, tg, fun H1 s1 => ⟨_, rfl, ?_⟩⟩
    cases e : flT d with
    | false => exact iteT (kf e H1 s1)
    | true => exact iteF ⟨_, rfl, t, xs, rfl, .inr ⟨SqT.of (s1 _ _ ht), kt e H1 s1⟩⟩
abbrev s_cht : Stmt := top 36
abbrev N_cht : List Str := ["test"]
theorem sc_cht : FnScope N_cht ["test"] (defScope s_cht) := ⟨rfl, rfl, rfl, by decide +kernel, rfl, by decide +kernel, by decide +kernel⟩
theorem kp_cht (F : At K mg "check_test" s_cht) (N : Nb mg) (T : Err1 K mg "BadTest") (Gf : Keeps CX0 P w K mg base "fits_test" 3 ["test"] (spFitT K ftT)) : Keeps (CX P w) P w K mg base "check_test" 4 ["test"] (spChT K ftT "BadTest") := by
  refine keeps_ofX F sc_cht (fun _ _ _ _ _ _ us hl => match us, hl with | [_], _ => rfl) (fun vs H Q E h => ?_) (fun f cdv A outer s H vs Q E hr h => ?_)
  · obtain ⟨p, t, xs, d, rfl, _⟩ := h
    rfl
  · obtain ⟨p, t, xs, d, rfl, ht, tg, kf, kt⟩ := h
    refine ⟨_, (pss_cons (ps_if (pt_not (pt_val (pe_k Gf hr (by rfl) pass0 (pa_cons (pv 0) pa_nil)))) (pss_one (ps_raise rfl (takes_of rfl rfl rfl rfl) (pmk0 T.f (by rfl)))) pss_nil)
        (pss_one (ps_ret (pe_callTy call_tuple_of (by rfl) N.tuple (by decide +kernel) (pa_cons (pv 0) pa_nil))))), ?_⟩
    refine ⟨_, rfl, p, .ref t, d, rfl, tg, fun H1 s1 => ⟨_, rfl, ?_⟩⟩
    cases e : ftT d with
    | false => exact iteT (kf e H1 s1)
    | true => exact iteF ⟨_, rfl, t, xs, rfl, .inr ⟨SqT.of (s1 _ _ ht), kt e H1 s1⟩⟩
/-! ### read_letter, read_test -/
/-- a constant of the module: the forms of its lines -/
structure FormTxt (K : PySem.W.Frag) (mg : Str → Option Value) (x : Str) (fs : Forms) : Prop where
  g : mg x = some (.ref (He.ga K x))
  d : ∀ H, Dp K H (.ref (He.ga K x)) (formsD fs)
def wSet : List Nat := [115, 101, 116]
def wAdd : List Nat := [97, 100, 100]
def wTurn : List Nat := [116, 117, 114, 110]
def wMod : List Nat := [109, 111, 100]
def wBelow : List Nat := [98, 101, 108, 111, 119]
def wIs : List Nat := [105, 115]
def wRest : List Nat := [114, 101, 115, 116]
def fsL : Forms := [(wSet, 1), (wAdd, 1), (wTurn, 0), (wMod, 1)]
def fsT : Forms := [(wBelow, 1), (wIs, 1), (wRest, 2)]
theorem shp_fsL : SeqAt.shaped (formsD fsL) = true := by kernel_rfl
theorem shp_fsT : SeqAt.shaped (formsD fsT) = true := by kernel_rfl
def smallD (u : List Nat) (ns : List Int) : PyData := .tuple (.str (SX.S u) :: ns.map PyData.int)
def smallV (u : List Nat) (ns : List Int) : List V := .str (SX.S u) :: ns.map V.int
theorem tgAll_ints {p : Addr} {H : Hp} : ∀ ns : List Int, TgAll p H (ns.map V.int) (ns.map PyData.int)
  | [] => .nil
  | n :: r => .cons (.int n) (tgAll_ints r)
theorem tg_small {p t : Addr} {H : Hp} {u : List Nat} {ns : List Int} (e : H t = some (.tup (smallV u ns))) (ne : t ≠ p) (sh : SeqAt.shaped (.str (SX.S u)) = true) : Tg p H (.ref t) (smallD u ns) := by
  refine .tup e ne (.cons (.str _ sh) (tgAll_ints ns)) ((small_tup (n := 60) fun d hd => ?_).shaped (by decide))
  rcases List.mem_cons.mp hd with rfl | hd
  · unfold SeqAt.shaped at sh
    obtain ⟨h1, _⟩ := and_ok sh
    exact ⟨h1, Nat.le_of_ble_eq_true (by kernel_rfl)⟩
  · obtain ⟨n, _, rfl⟩ := List.mem_map.mp hd
    exact ⟨by kernel_rfl, Nat.le_of_ble_eq_true (by kernel_rfl)⟩
def RdEnd (K : PySem.W.Frag) (H : Hp) (Q : VK) (E : XK) (f : PyData → Bool) (x : Str) : Option (List Nat × List Int) → Prop
  | none => OutA K E H "BadText" lineBad
  | some (u, ns) => (f (smallD u ns) = false → Out0 K E H x) ∧ (f (smallD u ns) = true → ∀ t H', Same H H' → H' t = some (.tup (smallV u ns)) → Q (.ref t) H')
def spRd (K : PySem.W.Frag) (fs : Forms) (f : PyData → Bool) (x : Str) : Sp := fun vs H Q E => ∃ (p : Addr) (zs : List V) (v : V) (d : PyData) (o : Option (List (List Nat))) (os : List (Option Int)), vs = [v] ∧ H p = some (.lst zs) ∧ Tg p H v d ∧ TextIs d o ∧ WordsOk o os ∧ RdEnd K H Q E f x (itemD o fs os)
theorem itemOf_head {ws : List (List Nat)} {fs : Forms} {os : List (Option Int)} {u : List Nat} {ns : List Int} (h : itemOf ws fs os = some (u, ns)) : ∃ r, ws = u :: r := by
  cases ws with
  | nil => cases h
  | cons u' r =>
    have h : (if (u', r.length) ∈ fs then (sqI os).map (fun ns => (u', ns)) else none) = some (u, ns) := h
    by_cases c : (u', r.length) ∈ fs
    · rw [if_pos c] at h
      obtain ⟨ms, _, e⟩ := Option.map_eq_some_iff.mp h
      exact ⟨r, by rw [show u' = u from congrArg Prod.fst e]⟩
    · rw [if_neg c] at h
      cases h
abbrev s_rdl : Stmt := top 44
abbrev N_rdl : List Str := ["text", "letter"]
theorem sc_rdl : FnScope N_rdl ["text"] (defScope s_rdl) := ⟨rfl, rfl, rfl, by decide +kernel, rfl, by decide +kernel, by decide +kernel⟩
theorem kp_rdl (F : At K mg "read_letter" s_rdl) (TF : FormTxt K mg "LETTER_FORMS" fsL) (G : Keeps (CX P w) P w K mg base "_read_item" 4 ["text", "forms"] (spRi K)) (Gc : Keeps (CX P w) P w K mg base "check_letter" 4 ["letter"] (spChT K flT "BadLetter")) : Keeps (CX P w) P w K mg base "read_letter" 5 ["text"] (spRd K fsL flT "BadLetter") := by
  refine keeps_ofX F sc_rdl (fun _ _ _ _ _ _ us hl => match us, hl with | [_], _ => rfl) (fun vs H Q E h => ?_) (fun f cdv A outer s H vs Q E hr h => ?_)
  · obtain ⟨p, zs, v, d, o, os, rfl, _⟩ := h
    rfl
  · obtain ⟨p, zs, v, d, o, os, rfl, hp, tv, tx, wo, k⟩ := h
    refine ⟨_, (pss_cons (ps_set (i := 1) sc_rdl.nd rfl (by walk_at "lv") (pe_k G hr (by rfl) (passes_call (takes_of rfl rfl rfl rfl) (fun _ _ _ _ h => h)) (pa_cons (pv 0) (pa_cons (pe_glob (v := .ref (He.ga K "LETTER_FORMS")) (by rfl) TF.g rfl) pa_nil))))
        (pss_one (ps_ret (pe_k Gc hr (by rfl) (passes_call (takes_of rfl rfl rfl rfl) (fun _ _ _ _ h => h)) (pa_cons (pv 1) pa_nil))))), ?_⟩
    refine ⟨_, rfl, p, _, v, d, fsL, o, os, rfl, tv, tx, fun H' _ => TF.d H', shp_fsL, wo, ?_⟩
    cases e : itemD o fsL os with
    | none =>
      rw [e] at k
      exact k
    | some un =>
      obtain ⟨u, ns⟩ := un
      rw [e] at k
      intro t H1 s1 et nt
      have sh : SeqAt.shaped (.str (SX.S u)) = true := by
        cases o with
        | none => cases e
        | some ws =>
          obtain ⟨r, er⟩ := itemOf_head e
          exact wo.s ws rfl u r er
      have tp : t ≠ p := fun z => by rw [z, hp] at nt; cases nt
      refine ⟨_, rfl, p, t, _, smallD u ns, rfl, et, tg_small et tp sh, fun h => (k.1 h).same s1, fun h H2 s2 => k.2 h t H2 (s1.trans s2) (s2 _ _ et)⟩
abbrev s_rdt : Stmt := top 45
abbrev N_rdt : List Str := ["text", "test"]
theorem sc_rdt : FnScope N_rdt ["text"] (defScope s_rdt) := ⟨rfl, rfl, rfl, by decide +kernel, rfl, by decide +kernel, by decide +kernel⟩
theorem kp_rdt (F : At K mg "read_test" s_rdt) (TF : FormTxt K mg "TEST_FORMS" fsT) (G : Keeps (CX P w) P w K mg base "_read_item" 4 ["text", "forms"] (spRi K)) (Gc : Keeps (CX P w) P w K mg base "check_test" 4 ["test"] (spChT K ftT "BadTest")) : Keeps (CX P w) P w K mg base "read_test" 5 ["text"] (spRd K fsT ftT "BadTest") := by
  refine keeps_ofX F sc_rdt (fun _ _ _ _ _ _ us hl => match us, hl with | [_], _ => rfl) (fun vs H Q E h => ?_) (fun f cdv A outer s H vs Q E hr h => ?_)
  · obtain ⟨p, zs, v, d, o, os, rfl, _⟩ := h
    rfl
  · obtain ⟨p, zs, v, d, o, os, rfl, hp, tv, tx, wo, k⟩ := h
    refine ⟨_, (pss_cons (ps_set (i := 1) sc_rdt.nd rfl (by walk_at "lv") (pe_k G hr (by rfl) (passes_call (takes_of rfl rfl rfl rfl) (fun _ _ _ _ h => h)) (pa_cons (pv 0) (pa_cons (pe_glob (v := .ref (He.ga K "TEST_FORMS")) (by rfl) TF.g rfl) pa_nil))))
        (pss_one (ps_ret (pe_k Gc hr (by rfl) (passes_call (takes_of rfl rfl rfl rfl) (fun _ _ _ _ h => h)) (pa_cons (pv 1) pa_nil))))), ?_⟩
    refine ⟨_, rfl, p, _, v, d, fsT, o, os, rfl, tv, tx, fun H' _ => TF.d H', shp_fsT, wo, ?_⟩
    cases e : itemD o fsT os with
    | none =>
      rw [e] at k
      exact k
    | some un =>
      obtain ⟨u, ns⟩ := un
      rw [e] at k
      intro t H1 s1 et nt
      have sh : SeqAt.shaped (.str (SX.S u)) = true := by
        cases o with
        | none => cases e
        | some ws =>
          obtain ⟨r, er⟩ := itemOf_head e
          exact wo.s ws rfl u r er
      have tp : t ≠ p := fun z => by rw [z, hp] at nt; cases nt
      refine ⟨_, rfl, p, t, _, smallD u ns, rfl, et, tg_small et tp sh, fun h => (k.1 h).same s1, fun h H2 s2 => k.2 h t H2 (s1.trans s2) (s2 _ _ et)⟩
end
end My
set_option Elab.async false
set_option linter.all false
set_option maxRecDepth 100000
set_option maxHeartbeats 8000000
namespace My
open PySem PySem.Spec PyProof.Rows L2
local macro_rules | `(tactic| walk_at "lv") => `(tactic| first | exact Or.inl rfl | exact Or.inr rfl)
/-! ### what make_lot says of things -/
def intD : PyData → Int
  | .int n => n
  | _ => 0
def unlB (lo hi : Int) (ds : List PyData) : Bool := ds.all (wDd lo hi) && decide ((ds.map intD).Nodup)
def unlD (lo hi : Int) (d : PyData) : Bool := match rowsOf d with
  | some ds => unlB lo hi ds
  | none => false
def coreB : PyData → PyData → Bool
  | .int a, .int b => decide (-20000 ≤ a) && (decide (b ≤ 20000) && decide (a ≤ b + 1))
  | _, _ => false
/-- a thing or a dict -/
def RowX (p : Addr) (H : Hp) (x : V) (d : PyData) : Prop := Tg p H x d ∨ ∃ a kvs, x = .ref a ∧ H a = some (.dK kvs) ∧ d = .dict []
theorem RowX.same {p : Addr} {H H' : Hp} {x : V} {d : PyData} (s : Same H H') (h : RowX p H x d) : RowX p H' x d := by
  rcases h with h | ⟨a, kvs, e, h, e2⟩
  · exact .inl (h.same s)
  · exact .inr ⟨a, kvs, e, s _ _ h, e2⟩
theorem RowX.but {p : Addr} {H H' : Hp} {x : V} {d : PyData} (s : But p H H') (hp : ∀ kvs, H p ≠ some (.dK kvs)) (h : RowX p H x d) : RowX p H' x d := by
  rcases h with h | ⟨a, kvs, e, h, e2⟩
  · exact .inl (Tg.but s _ _ h)
  · exact .inr ⟨a, kvs, e, s _ _ (fun z => hp kvs (z ▸ h)) h, e2⟩
section
variable {P : Program} {w : World} {K : PySem.W.Frag} {mg : Str → Option Value} {base : Heap}
def spSeqR (K : PySem.W.Frag) : Sp := fun vs H Q _ => ∃ (p : Addr) (x : V) (d : PyData), vs = [x] ∧ RowX p H x d ∧ ∀ H', Same H H' → Q (.bl (isSq d)) H'
theorem kp_seqR (F : At K mg "is_sequence" s_seq) (N : Nb mg) : Keeps CX0 P w K mg base "is_sequence" 1 ["thing"] (spSeqR K) := by
  refine keeps_of F sc_seq (fun _ _ _ _ _ _ us hl => match us, hl with | [_], _ => rfl) (fun vs H Q E h => ?_) (fun f cdv A outer s H vs Q E hr h => ?_)
  · obtain ⟨p, x, d, rfl, _⟩ := h
    rfl
  · obtain ⟨p, x, d, rfl, hx, k⟩ := h
    refine ⟨_, (pss_one (ps_ret (pe_callB call_isiT (by rfl) N.isinstance boot_isinstance (pa_cons (pv 0) (pa_cons (pe_tup (pa_cons (pe_bltn (v := .ty "list") (by rfl) N.list (by decide +kernel) rfl) (pa_cons (pe_bltn (v := .ty "tuple") (by rfl) N.tuple (by decide +kernel) rfl) pa_nil))) pa_nil))))), ?_⟩
    refine ⟨_, rfl, ⟨(by show 2 ≤ sizeLine; decide), fun t ht => ?_⟩⟩
    have s1 := same_new (o := .tup [V.ty "list", V.ty "tuple"]) (Same.refl H) ht
    have k1 := k _ s1
    have two : ∀ {T : String} {b1 b2 : Bool}, TyX K (upd H t (.tup [V.ty "list", V.ty "tuple"])) x (.type T) → PySem.W.kitOne K (.type T) (.type "list") = some b1 → PySem.W.kitOne K (.type T) (.type "tuple") = some b2 → (b1 || b2) = isSq d →
        ∃ (x' : V) (tp : Addr) (cs : List V) (t' : Value) (us : List Value) (b : Bool), ([x, .ref t] : List V) = [x', .ref tp] ∧ upd H t (.tup [V.ty "list", V.ty "tuple"]) tp = some (.tup cs) ∧ Paired ClsV cs us ∧ TyX K (upd H t (.tup [V.ty "list", V.ty "tuple"])) x' t' ∧ PySem.W.kitAny K t' us = some b ∧ Q (.bl b) (upd H t (.tup [V.ty "list", V.ty "tuple"])) := fun ty e1 e2 eb => by
      refine ⟨x, t, [.ty "list", .ty "tuple"], _, _, isSq d, rfl, upd_same, .cons (.ty _) (.cons (.ty _) .nil), ty, kitAny_cons e1 (fun z => ?_) (fun z => ?_), k1⟩
      · subst z
        exact kitAny_cons e2 (fun z => by subst z; rw [← eb]; rfl) (fun z => by subst z; rw [← eb]; rfl)
      · subst z; rw [← eb]; rfl
    rcases hx with hx | ⟨a, kvs, rfl, ea, rfl⟩
    · have hx1 := (hx.same s1).dp (K := K)
      have ty := dp_ty hx1
      cases hx1 with
      | lst _ _ => exact two (b1 := true) (b2 := false) ty (kit_ty (a := "list") (by decide +kernel)) (kit_ty (a := "list") (by decide +kernel)) rfl
      | tup _ _ => exact two (b1 := false) (b2 := true) ty (kit_ty (a := "tuple") (by decide +kernel)) (kit_ty (a := "tuple") (by decide +kernel)) rfl
      | non => exact two (b1 := false) (b2 := false) ty (kit_ty (a := "NoneType") (by decide +kernel)) (kit_ty (a := "NoneType") (by decide +kernel)) rfl
      | bl b => exact two (b1 := false) (b2 := false) ty (kit_ty (a := "bool") (by decide +kernel)) (kit_ty (a := "bool") (by decide +kernel)) rfl
      | int n => exact two (b1 := false) (b2 := false) ty (kit_ty (a := "int") (by decide +kernel)) (kit_ty (a := "int") (by decide +kernel)) rfl
      | str z => exact two (b1 := false) (b2 := false) ty (kit_ty (a := "str") (by decide +kernel)) (kit_ty (a := "str") (by decide +kernel)) rfl
    · exact two (b1 := false) (b2 := false) (.base (.dK (s1 _ _ ea))) (kit_ty (a := "dict") (by decide +kernel)) (kit_ty (a := "dict") (by decide +kernel)) rfl
/-! ### _check_core -/
def lotBad (z : Str) : List (Str × V) := [("what", .str z)]
def spCoreT (K : PySem.W.Frag) : Sp := fun vs H Q E => ∃ (x y : V) (dx dy : PyData), vs = [x, y] ∧ Dp K H x dx ∧ Dp K H y dy ∧ (coreB dx dy = false → OutA K E H "BadLot" (lotBad "core")) ∧ (coreB dx dy = true → Q .non H)
theorem coreB_l {a : PyData} {b : PyData} (h : isIntD a = false) : coreB a b = false := by cases a <;> first | rfl | exact Bool.noConfusion h
theorem coreB_r {a : PyData} {b : PyData} (h : isIntD b = false) : coreB a b = false := by
  cases b <;> first | exact Bool.noConfusion h | (cases a <;> rfl)
theorem int_of {K : PySem.W.Frag} {H : Hp} {x : V} {d : PyData} (h : Dp K H x d) (i : isIntD d = true) : ∃ n, x = .int n ∧ d = .int n := by
  cases h <;> first | exact ⟨_, rfl, rfl⟩ | exact Bool.noConfusion i
theorem kp_coreT (F : At K mg "_check_core" s_core) (S : ErrA P w K mg base "BadLot" ["what"]) (mFARTHEST : ∃ t, mg "FARTHEST" = some (.int 20000 t)) (Gw : Keeps CX0 P w K mg base "is_whole" 1 ["thing"] (spWhT K)) : Keeps (CX P w) P w K mg base "_check_core" 3 ["low", "high"] (spCoreT K) := by
  refine keeps_ofX F sc_core (fun _ _ _ _ _ _ us hl => match us, hl with | [_, _], _ => rfl) (fun vs H Q E h => ?_) (fun f cdv A outer s H vs Q E hr h => ?_)
  · obtain ⟨x, y, dx, dy, rfl, _⟩ := h
    rfl
  · obtain ⟨x, y, dx, dy, rfl, hx, hy, kf, kt⟩ := h
    obtain ⟨tF, mFARTHEST⟩ := mFARTHEST
    have h1 : Room 1 (A.deeper (envOfC "_check_core" (defScope s_core) s.heap.objs.size f cdv)) := hr.mono (by decide)
    refine ⟨_, (pss_cons (ps_if (PW.pt (pw_or (pt_not (pt_val (pe_k Gw h1 (by rfl) pass0 (pa_cons (pv 0) pa_nil)))) (pw_or1 (pt_not (pt_val (pe_k Gw h1 (by rfl) pass0 (pa_cons (pv 1) pa_nil))))))) (pss_one (ps_raise rfl (takes_of rfl rfl rfl rfl) (by exact pmk_e S hr (by rfl) (pa_cons pe_str pa_nil)))) pss_nil)
        (pss_one (ps_if (PW.pt (pw_or (pt_cmpR op_lt (pv 0) (pe_un un_neg (pe_glob (v := .int 20000) (by rfl) mFARTHEST ⟨_, rfl⟩)) (nomark _)) (pw_or (pt_cmpR op_gt (pv 1) (pe_glob (v := .int 20000) (by rfl) mFARTHEST ⟨_, rfl⟩) (nomark _)) (pw_or1 (pt_cmpR op_gt (pv 0) (pe_op op_add (pv 1) pe_int) (nomark _)))))) (pss_one (ps_raise rfl (takes_of rfl rfl rfl rfl) (by exact pmk_e S hr (by rfl) (pa_cons pe_str pa_nil)))) pss_nil))), ?_⟩
    have boom : ∀ {ta : TA} {σ : L2.St}, coreB dx dy = false → (∀ Q : List V → Hp → Prop, Q [.str "core"] H → ta σ H Q) → tMkO (He.ga K "BadLot") (spIni (He.ga K "BadLot") ["what"]) [] ta σ H (fun cls d H' => E cls d H') := fun hb ht =>
      mko_ok (K := K) ht rfl (by show 1 ≤ 1000; decide) fun dd H' s3 ed => kf hb dd H' s3 ed
    refine ⟨_, rfl, x, dx, rfl, hx, _, rfl, ?_⟩
    cases e1 : isIntD dx with
    | false => exact iteT (iteT (boom (coreB_l e1) fun _ q => q))
    | true =>
      refine iteF ⟨_, rfl, y, dy, rfl, hy, _, rfl, ?_⟩
      cases e2 : isIntD dy with
      | false => exact iteT (boom (coreB_r e2) fun _ q => q)
      | true =>
        obtain ⟨a, rfl, rfl⟩ := int_of hx e1
        obtain ⟨b, rfl, rfl⟩ := int_of hy e2
        refine iteF ?_
        refine ⟨_, rfl, _, rfl, _, _, rfl, rfl, _, rfl, ite2 (fun c1 => ?_) (fun c1 => ?_)⟩
        · exact iteT (boom (by show (decide (-20000 ≤ a) && _) = false; rw [decide_eq_false (by have := of_decide_eq_true c1; omega)]; rfl) fun _ q => q)
        · refine ⟨_, rfl, _, _, rfl, rfl, _, rfl, ite2 (fun c2 => ?_) (fun c2 => ?_)⟩
          · exact iteT (boom (by show (decide (-20000 ≤ a) && (decide (b ≤ 20000) && _)) = false; rw [decide_eq_false (p := b ≤ 20000) (by have := of_decide_eq_true c2; omega), Bool.false_and, Bool.and_false]) fun _ q => q)
          · refine ⟨_, rfl, _, rfl, _, _, rfl, rfl, _, _, rfl, rfl, _, rfl, ite2 (fun c3 => ?_) (fun c3 => ?_)⟩
            · exact boom (by show (decide (-20000 ≤ a) && (decide (b ≤ 20000) && decide (a ≤ b + 1))) = false; rw [decide_eq_false (p := a ≤ b + 1) (by have := of_decide_eq_true c3; omega), Bool.and_false, Bool.and_false]) fun _ q => q
            · refine kt ?_
              show (decide (-20000 ≤ a) && (decide (b ≤ 20000) && decide (a ≤ b + 1))) = true
              rw [decide_eq_true (p := -20000 ≤ a) (by have : ¬ a < -20000 := fun z => c1 (decide_eq_true z); omega), decide_eq_true (p := b ≤ 20000) (by have : ¬ (20000 : Int) < b := fun z => c2 (decide_eq_true z); omega), decide_eq_true (p := a ≤ b + 1) (by have : ¬ b + 1 < a := fun z => c3 (decide_eq_true z); omega)]
              rfl
/-! ### _are_unlike_from -/
def spUnlT (K : PySem.W.Frag) : Sp := fun vs H Q _ => ∃ (p : Addr) (x : V) (d : PyData) (lo hi : Int), vs = [x, .int lo, .int hi] ∧ RowX p H x d ∧ (∀ ds, rowsOf d = some ds → ds.length ≤ 900) ∧ ∀ H', Same H H' → Q (.bl (unlD lo hi d)) H'
theorem unlB_bad {lo hi : Int} {ds : List PyData} {e : PyData} (h : e ∈ ds) (b : wDd lo hi e = false) : unlB lo hi ds = false := by
  unfold unlB
  cases q : ds.all (wDd lo hi) with
  | false => rfl
  | true => rw [List.all_eq_true.mp q e h] at b; cases b
theorem unlB_dup {lo hi : Int} {ds : List PyData} {i : Nat} {e : PyData} (h : ds[i]? = some e) (b : intD e ∈ (ds.take i).map intD) : unlB lo hi ds = false := by
  unfold unlB
  rw [decide_eq_false, Bool.and_false]
  intro nd
  obtain ⟨hi3, hi4⟩ := List.getElem?_eq_some_iff.mp h
  have e2 : ds = ds.take i ++ e :: ds.drop (i + 1) := by rw [← hi4, List.getElem_cons_drop, List.take_append_drop]
  rw [e2, List.map_append, List.map_cons] at nd
  exact (List.nodup_append.mp nd).2.2 _ b _ List.mem_cons_self rfl
theorem unlB_ok {lo hi : Int} {ds : List PyData} (h : ∀ e ∈ ds, wDd lo hi e = true) (nd : (ds.map intD).Nodup) : unlB lo hi ds = true := by
  unfold unlB
  rw [List.all_eq_true.mpr h, decide_eq_true nd]
  rfl

theorem tgAll_at {p : Addr} {H : Hp} {xs : List V} {ds : List PyData} {i : Nat} {x : V} (h : TgAll p H xs ds) (e : xs[i]? = some x) : ∃ d, ds[i]? = some d ∧ Tg p H x d := by
  have hl := h.len
  obtain ⟨hi, _⟩ := List.getElem?_eq_some_iff.mp e
  have e2 : ds[i]? = some (ds[i]'(by omega)) := List.getElem?_eq_getElem _
  obtain ⟨y, h1, h2⟩ := h.get e2
  rw [h1] at e
  cases e
  exact ⟨_, e2, h2⟩
theorem small900 {n : Nat} (h : n ≤ 1000) : n < sizeLine := by rw [sizeLine_eq]; omega
theorem kp_unlT (F : At K mg "_are_unlike_from" s_unl) (G : Keeps CX0 P w K mg base "is_whole_from" 2 ["thing", "low", "high"] (spWfT K)) (G2 : Keeps CX0 P w K mg base "is_sequence" 1 ["thing"] (spSeqR K)) :
    Keeps CX0 P w K mg base "_are_unlike_from" 3 ["numbers", "low", "high"] (spUnlT K) := by
  refine keeps_of F sc_unl (fun _ _ _ _ _ _ us hl => match us, hl with | [_, _, _], _ => rfl) (fun vs H Q E h => ?_) (fun f cdv A outer s H vs Q E hr h => ?_)
  · obtain ⟨p, x, d, lo, hi, rfl, _⟩ := h
    rfl
  · obtain ⟨p, x, d, lo, hi, rfl, rx, hl, k⟩ := h
    have hu := hu_of hr
    refine ⟨_, (pss_cons (ps_if (pt_not (pt_val (pe_k G2 (hr.mono (by decide)) (by rfl) pass0 (pa_cons (pv 0) pa_nil)))) (pss_one (ps_ret pe_bl)) pss_nil)
        (pss_cons (ps_set (i := 3) sc_unl.nd rfl (by walk_at "lv") pe_dnewK)
        (pss_cons (ps_for PassesOwn.never rfl (pi_seqV (pv 0)) (pg_name (i := 4) sc_unl.nd rfl (by walk_at "lv")) (pss_cons (ps_if (PW.pt (pw_or (pt_not (pt_val (pe_k G hr (by rfl) pass0 (pa_cons (pv 4) (pa_cons (pv 1) (pa_cons (pv 2) pa_nil)))))) (pw_or1 (pt_cmp (pc_din hu (pv 4) (pv 3)))))) (pss_one (ps_ret pe_bl)) pss_nil)
        (pss_one (ps_dput hu (pv 3) (pv 4) pe_bl rfl))))
        (pss_one (ps_ret pe_bl))))), ?_⟩
    refine ⟨_, rfl, p, x, d, rfl, rx, fun H1 s1 => ⟨_, rfl, ?_⟩⟩
    cases er : rowsOf d with
    | none =>
      have k1 := k H1 s1
      unfold unlD at k1
      rw [er] at k1
      have : isSq d = false := by cases d <;> first | rfl | cases er
      rw [this]
      exact iteT k1
    | some ds =>
      have un : unlD lo hi d = unlB lo hi ds := by unfold unlD; rw [er]
      rw [un] at k
      have : isSq d = true := by cases d <;> first | rfl | cases er
      rw [this]
      rcases rx with rx | ⟨_, _, _, _, rfl⟩
      · have l9 := hl ds er
        obtain ⟨a, xs, rfl, sq, tg⟩ := (rx.same s1).rows er
        have ln := tg.len
        refine iteF fun q hq => ?_
        have s2 := same_new (o := .dK []) s1 hq
        have sq2 : SqA (upd H1 q (.dK [])) a xs := sq.elim (fun e => .inl (same_new (Same.refl H1) hq _ _ e)) fun e => .inr (same_new (Same.refl H1) hq _ _ e)
        refine ⟨a, xs, rfl, sq2, fun J wk => for_it wk (fun i σ H2 => ∃ y kvs, σ = [some (.ref a), some (.int lo), some (.int hi), some (.ref q), y] ∧ H2 q = some (.dK kvs) ∧ kvs.length ≤ i ∧ (∀ n : Int, (valV kvs (Sum.inl n)).isSome = true ↔ n ∈ (ds.take i).map intD) ∧ Same H1 H2 ∧ (∀ e ∈ ds.take i, wDd lo hi e = true) ∧ ((ds.take i).map intD).Nodup)
          ⟨_, [], rfl, upd_same, Nat.le_refl 0, (fun n => by simp [valV_nil]), same_new (Same.refl H1) hq, (fun e he => by simp at he), by simp⟩ (fun i σ H2 _ ⟨_, _, _, _, _, _, s3, _⟩ => ?_) ?_ ?_⟩
        · rcases sq with e | e
          · rw [s3 _ _ e, same_new (Same.refl H1) hq _ _ e]
          · rw [s3 _ _ e, same_new (Same.refl H1) hq _ _ e]
        · rintro i v σ H2 H3 hi' ⟨y, kvs, rfl, e1, e2, e3, s3, g3, n3⟩ ⟨rfl, e4⟩
          obtain ⟨e, he, te⟩ := tgAll_at tg e4
          have sn := take_snoc he
          refine ⟨_, rfl, _, rfl, _, rfl, v, e, lo, hi, rfl, (te.same s3).dp, _, rfl, ?_⟩
          cases ew : wDd lo hi e with
          | false =>
            refine iteT (iteT ?_)
            have k2 := k _ (s1.trans s3)
            rw [unlB_bad (List.mem_of_getElem? he) ew] at k2
            exact k2
          | true =>
            obtain ⟨n, rfl, b1, b2⟩ := wDd_ok ew
            cases te
            refine iteF ⟨_, rfl, _, rfl, q, _, rfl, DGet.k (k := Sum.inl n) e1, _, rfl, ?_⟩
            cases ev : valV kvs (Sum.inl n) with
            | some y9 =>
              refine iteT ?_
              have k2 := k _ (s1.trans s3)
              rw [unlB_dup he ((e3 n).mp (by rw [ev]; rfl))] at k2
              exact k2
            | none =>
              have nin : n ∉ (ds.take i).map intD := fun z => by
                have := (e3 n).mpr z
                rw [ev] at this
                cases this
              refine iteF ⟨_, rfl, _, rfl, q, _, rfl, DPut.k (k := Sum.inl n) e1 (small900 (by omega)), ?_⟩
              refine ⟨_, _, rfl, upd_same, Nat.le_trans (length_putK _ _ _) (by omega), fun m => ?_, fun b o e => ?_, fun e he2 => ?_, ?_⟩
              · rw [valV_put, sn, List.map_append]
                by_cases z : (Sum.inl m : Key) = Sum.inl n
                · cases z
                  rw [if_pos rfl]
                  exact ⟨fun _ => List.mem_append_right _ (List.mem_singleton.mpr rfl), fun _ => rfl⟩
                · rw [if_neg z, e3 m]
                  refine ⟨fun h => List.mem_append_left _ h, fun h => ?_⟩
                  rcases List.mem_append.mp h with h | h
                  · exact h
                  · exact absurd (congrArg Sum.inl (List.mem_singleton.mp h)) z
              · rw [upd_ne (ne_of_none e hq)]
                exact s3 b o e
              · rw [sn] at he2
                rcases List.mem_append.mp he2 with h | h
                · exact g3 e h
                · rw [List.mem_singleton.mp h]; exact ew
              · rw [sn, List.map_append]
                refine List.nodup_append.mpr ⟨n3, by simp, fun a ha b hb => ?_⟩
                rw [List.mem_singleton.mp hb]
                exact fun z => nin (by rw [← show a = n from z]; exact ha)
        · rintro σ H2 ⟨y, kvs, rfl, e1, e2, e3, s3, g3, n3⟩
          rw [ln, List.take_length] at g3 n3
          have k2 := k _ (s1.trans s3)
          rw [unlB_ok g3 n3] at k2
          exact k2
      · cases er
end
end My
set_option Elab.async false
set_option linter.all false
set_option maxRecDepth 100000
set_option maxHeartbeats 8000000
namespace My
open PySem PySem.Spec PyProof.Rows L2
local macro_rules | `(tactic| walk_at "lv") => `(tactic| first | exact Or.inl rfl | exact Or.inr rfl)
/-! ### make_lot of things -/
def MakeEnd (K : PySem.W.Frag) (bad : Str → Prop) (good : Int → Int → Int → Prop) (dlo dhi di dm du dd : PyData) : Prop :=
  (coreB dlo dhi = false → bad "core") ∧ ∀ lo hi, dlo = .int lo → dhi = .int hi → coreB dlo dhi = true → (unlD lo hi di = false → bad "inside") ∧ (unlD lo hi di = true →
  (wDd 1 10080 dm = false → bad "modulus") ∧ ∀ m, dm = .int m → 1 ≤ m → m ≤ 10080 → (unlD 0 (m - 1) du = false → bad "ups") ∧ (unlD 0 (m - 1) du = true → (unlD 0 (m - 1) dd = false → bad "downs") ∧ (unlD 0 (m - 1) dd = true → good lo hi m)))
def Len900 (d : PyData) : Prop := ∀ ds, rowsOf d = some ds → ds.length ≤ 900
def spMakeT (K : PySem.W.Frag) : Sp := fun vs H Q E => ∃ (p : Addr) (xl xh xi xm xu xd : V) (dlo dhi di dm du dd : PyData), vs = [xl, xh, xi, xm, xu, xd] ∧ Tg p H xl dlo ∧ Tg p H xh dhi ∧ RowX p H xi di ∧ Tg p H xm dm ∧ RowX p H xu du ∧ RowX p H xd dd ∧ (Len900 di ∧ Len900 du ∧ Len900 dd) ∧
  MakeEnd K (fun z => OutA K E H "BadLot" (lotBad z)) (fun lo hi m => ∀ H', Same H H' → spLotOf K [.int lo, .int hi, xi, .int m, xu, xd] H' Q E) dlo dhi di dm du dd
section
variable {P : Program} {w : World} {K : PySem.W.Frag} {mg : Str → Option Value} {base : Heap}
theorem coreB_ints {a b : PyData} (h : coreB a b = true) : ∃ x y, a = .int x ∧ b = .int y := by
  cases a <;> first | exact Bool.noConfusion h | (cases b <;> first | exact ⟨_, _, rfl, rfl⟩ | exact Bool.noConfusion h)
theorem kp_makeT (F : At K mg "make_lot" s_make) (S : ErrA P w K mg base "BadLot" ["what"]) (mMOST_MODULUS : ∃ t, mg "MOST_MODULUS" = some (.int 10080 t)) (Gc : Keeps (CX P w) P w K mg base "_check_core" 3 ["low", "high"] (spCoreT K)) (Gu : Keeps CX0 P w K mg base "_are_unlike_from" 3 ["numbers", "low", "high"] (spUnlT K))
    (Gw : Keeps CX0 P w K mg base "is_whole_from" 2 ["thing", "low", "high"] (spWfT K)) (Gl_ : Keeps (CX P w) P w K mg base "_lot_of" 3 ["low", "high", "inside", "modulus", "ups", "downs"] (spLotOf K)) :
    Keeps (CX P w) P w K mg base "make_lot" 4 ["low", "high", "inside", "modulus", "ups", "downs"] (spMakeT K) := by
  refine keeps_ofX F sc_make (fun _ _ _ _ _ _ us hl => match us, hl with | [_, _, _, _, _, _], _ => rfl) (fun vs H Q E h => ?_) (fun f cdv A outer s H vs Q E hr h => ?_)
  · obtain ⟨p, xl, xh, xi, xm, xu, xd, dlo, dhi, di, dm, du, dd, rfl, _⟩ := h
    rfl
  · obtain ⟨p, xl, xh, xi, xm, xu, xd, dlo, dhi, di, dm, du, dd, rfl, tl, th, ti, tm, tu, td, ⟨l1, l2, l3⟩, k0, k⟩ := h
    obtain ⟨tM, mMOST_MODULUS⟩ := mMOST_MODULUS
    have h3 : Room 3 (A.deeper (envOfC "make_lot" (defScope s_make) s.heap.objs.size f cdv)) := hr.mono (by decide)
    have h2 : Room 2 (A.deeper (envOfC "make_lot" (defScope s_make) s.heap.objs.size f cdv)) := hr.mono (by decide)
    refine ⟨_, (pss_cons (ps_expr (pe_k Gc h3 (by rfl) (passes_call (takes_of rfl rfl rfl rfl) (fun _ _ _ _ h => h)) (pa_cons (pv 0) (pa_cons (pv 1) pa_nil))))
        (pss_cons (ps_if (pt_not (pt_val (pe_k Gu h3 (by rfl) pass0 (pa_cons (pv 2) (pa_cons (pv 0) (pa_cons (pv 1) pa_nil)))))) (pss_one (ps_raise rfl (takes_of rfl rfl rfl rfl) (by exact pmk_e S h2 (by rfl) (pa_cons pe_str pa_nil)))) pss_nil)
        (pss_cons (ps_if (pt_not (pt_val (pe_k Gw h2 (by rfl) pass0 (pa_cons (pv 3) (pa_cons pe_int (pa_cons (pe_glob (v := .int 10080) (by rfl) mMOST_MODULUS ⟨_, rfl⟩) pa_nil)))))) (pss_one (ps_raise rfl (takes_of rfl rfl rfl rfl) (by exact pmk_e S h2 (by rfl) (pa_cons pe_str pa_nil)))) pss_nil)
        (pss_cons (ps_if (pt_not (pt_val (pe_k Gu h3 (by rfl) pass0 (pa_cons (pv 4) (pa_cons pe_int (pa_cons (pe_op op_sub (pv 3) pe_int) pa_nil)))))) (pss_one (ps_raise rfl (takes_of rfl rfl rfl rfl) (by exact pmk_e S h2 (by rfl) (pa_cons pe_str pa_nil)))) pss_nil)
        (pss_cons (ps_if (pt_not (pt_val (pe_k Gu h3 (by rfl) pass0 (pa_cons (pv 5) (pa_cons pe_int (pa_cons (pe_op op_sub (pv 3) pe_int) pa_nil)))))) (pss_one (ps_raise rfl (takes_of rfl rfl rfl rfl) (by exact pmk_e S h2 (by rfl) (pa_cons pe_str pa_nil)))) pss_nil)
        (pss_one (ps_ret (pe_k Gl_ h3 (by rfl) (passes_call (takes_of rfl rfl rfl rfl) (fun _ _ _ _ h => h)) (pa_cons (pv 0) (pa_cons (pv 1) (pa_cons (pv 2) (pa_cons (pv 3) (pa_cons (pv 4) (pa_cons (pv 5) pa_nil)))))))))))))), ?_⟩
    have boom : ∀ {ta : TA} {σ : L2.St} {H2 : Hp} {z : Str}, Same H H2 → OutA K E H "BadLot" (lotBad z) → (∀ Q : List V → Hp → Prop, Q [.str z] H2 → ta σ H2 Q) → tMkO (He.ga K "BadLot") (spIni (He.ga K "BadLot") ["what"]) [] ta σ H2 (fun cls d H' => E cls d H') := fun s2 o ht =>
      mko_ok (K := K) ht rfl (by show 1 ≤ 1000; decide) fun dd H' s3 ed => o dd H' (s2.trans s3) ed
    refine ⟨_, rfl, _, rfl, xl, xh, dlo, dhi, rfl, tl.dp, th.dp, k0, fun hc => ?_⟩
    obtain ⟨lo, hi, rfl, rfl⟩ := coreB_ints hc
    cases tl
    cases th
    obtain ⟨k1, k2⟩ := k lo hi rfl rfl hc
    refine ⟨_, rfl, _, rfl, _, rfl, p, xi, di, lo, hi, rfl, ti, l1, fun H1 s1 => ⟨_, rfl, ?_⟩⟩
    cases e1 : unlD lo hi di with
    | false => exact iteT (boom s1 (k1 e1) fun _ q => q)
    | true =>
    obtain ⟨k3, k4⟩ := k2 e1
    refine iteF ⟨_, rfl, xm, dm, 1, 10080, rfl, (tm.same s1).dp, _, rfl, ?_⟩
    cases e2 : wDd 1 10080 dm with
    | false => exact iteT (boom s1 (k3 e2) fun _ q => q)
    | true =>
    obtain ⟨m, rfl, m1, m2⟩ := wDd_ok e2
    cases tm
    obtain ⟨k5, k6⟩ := k4 m rfl m1 m2
    refine iteF ⟨_, rfl, _, rfl, _, _, rfl, rfl, p, xu, du, 0, m - 1, rfl, tu.same s1, l2, fun H2 s2 => ⟨_, rfl, ?_⟩⟩
    cases e3 : unlD 0 (m - 1) du with
    | false => exact iteT (boom (s1.trans s2) (k5 e3) fun _ q => q)
    | true =>
    obtain ⟨k7, k8⟩ := k6 e3
    refine iteF ⟨_, rfl, _, rfl, _, _, rfl, rfl, p, xd, dd, 0, m - 1, rfl, td.same (s1.trans s2), l3, fun H3 s3 => ⟨_, rfl, ?_⟩⟩
    cases e4 : unlD 0 (m - 1) dd with
    | false => exact iteT (boom ((s1.trans s2).trans s3) (k7 e4) fun _ q => q)
    | true =>
    refine iteF ⟨_, rfl, _, rfl, _, rfl, _, rfl, _, rfl, _, rfl, ?_⟩
    exact k8 e4 H3 ((s1.trans s2).trans s3)
end
end My
set_option Elab.async false
set_option linter.all false
set_option maxRecDepth 100000
set_option maxHeartbeats 8000000
namespace My
open PySem PySem.Spec PyProof.Rows L2
local macro_rules | `(tactic| walk_at "lv") => `(tactic| first | exact Or.inl rfl | exact Or.inr rfl)
def wInside : List Nat := [105, 110, 115, 105, 100, 101]
def wUps : List Nat := [117, 112, 115]
def wDowns : List Nat := [100, 111, 119, 110, 115]
/-- the words of a lot's line -/
def lotWs (lo hi : Int) (ins : List Int) (m : Int) (us ds : List Int) : List (List Nat) := [wNum lo, wNum hi, wNum m, wInside] ++ (ins.map wNum ++ (wUps :: (us.map wNum ++ (wDowns :: ds.map wNum))))
def lotVs (lo hi : Int) (ins : List Int) (m : Int) (us ds : List Int) : List V := [.int lo, .int hi, .int m, .str "inside"] ++ (ins.map V.int ++ (.str "ups" :: (us.map V.int ++ (.str "downs" :: ds.map V.int))))
theorem s_inside : ("inside" : Str) = SX.S wInside := by kernel_rfl
theorem s_ups : ("ups" : Str) = SX.S wUps := by kernel_rfl
theorem s_downs : ("downs" : Str) = SX.S wDowns := by kernel_rfl
theorem wNum_len {n : Int} (h : n.natAbs < 10 ^ 6) : (wNum n).length ≤ 7 := by
  have ln := TL.numL_len (n := n.natAbs) (k := 6) (by decide) h
  unfold wNum
  split
  · rw [List.length_cons]; omega
  · omega
theorem log6 {n : Int} (h : n.natAbs < 10 ^ 6) : n.natAbs.log2 < 1920 := by
  rcases Nat.eq_zero_or_pos n.natAbs with h0 | h0
  · rw [h0]; decide
  · have := (Nat.log2_lt (n := n.natAbs) (k := 20) (by omega)).mpr (by omega)
    omega
/-- numbers of few digits -/
def Few (ns : List Int) : Prop := ∀ n ∈ ns, n.natAbs < 10 ^ 6
theorem parts_app {xs ys : List V} {ws us : List (List Nat)} (h : PartsW xs ws) (k : PartsW ys us) : PartsW (xs ++ ys) (ws ++ us) := by
  refine ⟨by rw [List.length_append, List.length_append, h.1, k.1], fun i v u e1 e2 => ?_⟩
  by_cases hi : i < xs.length
  · rw [List.getElem?_append_left hi] at e1
    rw [List.getElem?_append_left (by rw [h.1]; exact hi)] at e2
    exact h.2 i v u e1 e2
  · rw [List.getElem?_append_right (by omega)] at e1
    rw [List.getElem?_append_right (by rw [h.1]; omega), h.1] at e2
    exact k.2 _ v u e1 e2
theorem parts_nil : PartsW [] [] := ⟨rfl, fun i v u e _ => by simp at e⟩
theorem parts_cons {v : V} {u : List Nat} {xs : List V} {ws : List (List Nat)} (h : PartW v u) (k : PartsW xs ws) : PartsW (v :: xs) (u :: ws) := by
  refine ⟨by rw [List.length_cons, List.length_cons, k.1], fun i a b e1 e2 => ?_⟩
  cases i with
  | zero => cases e1; cases e2; exact h
  | succ i => exact k.2 i a b (by simpa using e1) (by simpa using e2)
theorem part_num {n : Int} (h : n.natAbs < 10 ^ 6) : PartW (.int n) (wNum n) := .inl ⟨n, rfl, log6 h, rfl⟩
theorem parts_nums : ∀ {ns : List Int}, Few ns → PartsW (ns.map V.int) (ns.map wNum)
  | [], _ => parts_nil
  | n :: r, h => parts_cons (part_num (h n List.mem_cons_self)) (parts_nums fun m hm => h m (List.mem_cons_of_mem _ hm))
theorem part_word {z : Str} {u : List Nat} (h : z = SX.S u) : PartW (.str z) u := .inr (by rw [h])
theorem parts_lot {lo hi m : Int} {ins us ds : List Int} (h : Few [lo, hi, m]) (h1 : Few ins) (h2 : Few us) (h3 : Few ds) : PartsW (lotVs lo hi ins m us ds) (lotWs lo hi ins m us ds) :=
  parts_app (parts_cons (part_num (h lo (by simp))) (parts_cons (part_num (h hi (by simp))) (parts_cons (part_num (h m (by simp))) (parts_cons (part_word s_inside) parts_nil)))) (parts_app (parts_nums h1) (parts_cons (part_word s_ups) (parts_app (parts_nums h2) (parts_cons (part_word s_downs) (parts_nums h3)))))
theorem lotWs_len {lo hi m : Int} {ins us ds : List Int} (h : Few [lo, hi, m]) (h1 : Few ins) (h2 : Few us) (h3 : Few ds) : ∀ u ∈ lotWs lo hi ins m us ds, u.length ≤ 7 := by
  have nums : ∀ {ns : List Int}, Few ns → ∀ u ∈ ns.map wNum, u.length ≤ 7 := fun hf u hu => by
    obtain ⟨n, hn, rfl⟩ := List.mem_map.mp hu
    exact wNum_len (hf n hn)
  intro u hu
  unfold lotWs at hu
  simp only [List.mem_append, List.mem_cons, List.not_mem_nil, or_false] at hu
  rcases hu with (rfl | rfl | rfl | rfl) | hu | rfl | hu | rfl | hu
  · exact wNum_len (h lo (by simp))
  · exact wNum_len (h hi (by simp))
  · exact wNum_len (h m (by simp))
  · decide
  · exact nums h1 u hu
  · decide
  · exact nums h2 u hu
  · decide
  · exact nums h3 u hu
theorem lotWs_many {lo hi m : Int} {ins us ds : List Int} : (lotWs lo hi ins m us ds).length = 6 + ins.length + us.length + ds.length := by
  unfold lotWs
  simp only [List.length_append, List.length_cons, List.length_map, List.length_nil]
  omega
section
variable {P : Program} {w : World} {K : PySem.W.Frag} {mg : Str → Option Value} {base : Heap}
/-! ### write_lot -/
def spWlo (C : Addr) : Sp := fun vs H Q _ => ∃ (p : Addr) (lo hi : Int) (m : Nat) (ins us ds : List Int), vs = [.ref p] ∧ LotAt C H p lo hi ins m us ds ∧ (Few [lo, hi, (m : Int)] ∧ Few ins ∧ Few us ∧ Few ds) ∧ (ins.length ≤ 900 ∧ us.length ≤ 900 ∧ ds.length ≤ 900) ∧
  ∀ H', Same H H' → Q (.str (SX.S (lineW (lotWs lo hi ins m us ds)))) H'
abbrev s_wlo : Stmt := top 48
abbrev N_wlo : List Str := ["lot", "words", "word"]
theorem sc_wlo : FnScope N_wlo ["lot"] (defScope s_wlo) := ⟨rfl, rfl, rfl, by decide +kernel, rfl, by decide +kernel, by decide +kernel⟩
theorem kp_wlo {C : Addr} (F : At K mg "write_lot" s_wlo) (T : LotTxt K mg C) (N : Nb mg) : Keeps CX0 P w K mg base "write_lot" 1 ["lot"] (spWlo C) := by
  refine keeps_of F sc_wlo (fun _ _ _ _ _ _ us hl => match us, hl with | [_], _ => rfl) (fun vs H Q E h => ?_) (fun f cdv A outer s H vs Q E hr h => ?_)
  · obtain ⟨p, lo, hi, m, ins, us, ds, rfl, _⟩ := h
    rfl
  · obtain ⟨p, lo, hi, m, ins, us, ds, rfl, ⟨dx, a, b, c, hp, ha, hb, hc⟩, ⟨f0, f1, f2, f3⟩, ⟨l1, l2, l3⟩, k⟩ := h
    refine ⟨_, (pss_cons (ps_set (i := 1) sc_wlo.nd rfl (by walk_at "lv") (pe_lst (pa_cons (pe_fld (pv 0) rfl) (pa_cons (pe_fld (pv 0) rfl) (pa_cons (pe_fld (pv 0) rfl) (pa_cons pe_str (StX.pa_star (pe_fld (pv 0) rfl) (pa_cons pe_str (StX.pa_star (pe_fld (pv 0) rfl) (pa_cons pe_str (StX.pa_star (pe_fld (pv 0) rfl) pa_nil)))))))))))
        (pss_one (ps_ret (pe_join pe_str (pe_lc (own := [("word", 2)]) (g := gName 2) (tt := tYes) rfl sc_wlo.nd (pi_seqV (pv 1)) (blkOk_by (N := N_wlo) (sc := defScope s_wlo) (by decide +kernel)) (fun _ _ _ _ _ => (pg_name (i := 2) sc_wlo.nd rfl (by walk_at "lv"))) (fun _ _ _ _ _ => pts_nil) (fun _ _ _ _ _ => (pe_callTy (T := "str") (r := rStr) call_strA (by rfl) N.str (by decide +kernel) (pa_cons (pv 2) pa_nil)))))))), ?_⟩
    refine ⟨_, rfl, p, C, dx, _, _, rfl, hp, T.cl, T.n1, lf_low, _, rfl, p, C, dx, _, _, rfl, hp, T.cl, T.n2, lf_high, _, rfl, p, C, dx, _, _, rfl, hp, T.cl, T.n4, lf_modulus, ?_⟩
    refine ⟨_, rfl, p, C, dx, _, _, rfl, hp, T.cl, T.n3, lf_inside, a, _, rfl, .inl (SqT.of ha), _, rfl, p, C, dx, _, _, rfl, hp, T.cl, T.n5, lf_ups, b, _, rfl, .inl (SqT.of hb), _, rfl, p, C, dx, _, _, rfl, hp, T.cl, T.n6, lf_downs, c, _, rfl, .inl (SqT.of hc), ?_⟩
    have pw := parts_lot f0 f1 f2 f3
    have wl := lotWs_len f0 f1 f2 f3
    have many : (lotWs lo hi ins m us ds).length ≤ 3000 := by rw [lotWs_many]; omega
    have vl : (lotVs lo hi ins m us ds).length ≤ 3000 := by rw [← pw.1]; exact many
    have ev : ([V.int lo, V.int hi, V.int (m : Int), V.str "inside"] ++ (ins.map V.int ++ (V.str "ups" :: (us.map V.int ++ (V.str "downs" :: (ds.map V.int ++ []))))) : List V) = lotVs lo hi ins m us ds := by
      rw [List.append_nil]
      rfl
    refine ⟨?_, fun q hq => ?_⟩
    · show ([V.int lo, V.int hi, V.int (m : Int), V.str "inside"] ++ (ins.map V.int ++ (V.str "ups" :: (us.map V.int ++ (V.str "downs" :: (ds.map V.int ++ []))))) : List V).length ≤ sizeLine
      rw [ev, sizeLine_eq]
      omega
    have s1 := same_new (o := .lst (lotVs lo hi ins m us ds)) (Same.refl H) hq
    rw [show (V.int lo :: V.int hi :: V.int (m : Int) :: V.str "inside" :: (ins.map V.int ++ (V.str "ups" :: (us.map V.int ++ (V.str "downs" :: (ds.map V.int ++ []))))) : List V) = lotVs lo hi ins m us ds from ev]
    refine ⟨⟨_, rfl⟩, q, _, rfl, .inl upd_same, fun J hw9 D hD => lc_it hw9 (fun i H3 => Same (upd H q (.lst (lotVs lo hi ins m us ds))) H3 ∧ H3 D = some (.lst (((lotWs lo hi ins m us ds).take i).map wordV))) ⟨same_new (Same.refl _) hD, upd_same⟩ (fun i H3 _ h => by rw [h.1 _ _ upd_same, upd_same]) ?_ ?_⟩
    · rintro i v H3 H4 hi' ⟨s3, e3⟩ ⟨rfl, e4⟩
      obtain ⟨u, eu⟩ : ∃ u, (lotWs lo hi ins m us ds)[i]? = some u := ⟨_, List.getElem?_eq_getElem (by rw [pw.1]; exact hi')⟩
      refine ⟨rfl, _, rfl, ?_⟩
      dsimp only [tNil]
      refine partW_str (pw.2 i v u e4 eu) ?_
      refine ⟨_, e3, smallB (by rw [List.length_map, List.length_take]; omega), same_at s3 hD, ?_⟩
      rw [upd_same, take_snoc eu, List.map_append]
      rfl
    · rintro H3 ⟨s3, e3⟩
      rw [List.take_of_length_le (by rw [pw.1]; exact Nat.le_refl _)] at e3
      refine ⟨_, D, (lotWs lo hi ins m us ds).map SX.S, rfl, rfl, .inl (SqL.of (by rw [List.map_map]; exact e3)), ?_, ?_⟩
      · have := sum_le (m := 7) wl
        have e1 : (" " : Str).length = 1 := by rw [s_sp, SX.S_len]; rfl
        rw [e1, List.length_map]
        omega
      · rw [join_line]
        exact k H3 (s1.trans s3)
end
end My
set_option Elab.async false
set_option linter.all false
set_option maxRecDepth 100000
set_option maxHeartbeats 8000000
namespace My
open PySem PySem.Spec PyProof.Rows L2
local macro_rules | `(tactic| walk_at "lv") => `(tactic| first | exact Or.inl rfl | exact Or.inr rfl)
/-! ### xs.count(word) of a list of texts -/
def rCntS (K : PySem.W.Frag) : V → List V → Hp → VK → Prop := fun x xs H Q => ∃ (p : Addr) (ys : List Str) (z : Str), x = .ref p ∧ xs = [.str z] ∧ SqL K H p (ys.map V.str) ∧ Q (.int (countIn (.str z) (ys.map PyData.str))) H
theorem mt_scount {X : L2.Cx} : MtR X "list.count" (rCntS X.K) := by
  rintro pns s σ H x xs v us Q I rx rxs ⟨p, ys, z, rfl, rfl, sq, q⟩
  cases rx
  obtain ⟨u, rfl, t, rfl⟩ := rxs.one
  obtain ⟨its, rv, is, _⟩ := I.list sq
  refine PyProof.Rows.count_list_strs is.isList (strs_of_vals rv) ?_
  exact ⟨.int _, H, I.tok _, ⟨_, rfl⟩, q⟩
end My
set_option Elab.async false
set_option linter.all false
set_option maxRecDepth 100000
set_option maxHeartbeats 8000000
namespace My
open PySem PySem.Spec PyProof.Rows L2
local macro_rules | `(tactic| walk_at "lv") => `(tactic| first | exact Or.inl rfl | exact Or.inr rfl)
/-! ### what a word is read as -/
def pf (u : List Nat) : Option Int := if plainB u = true then intText? (SX.S u) else none
theorem isDg_of {c : Nat} (h : isDg c = true) : 48 ≤ c ∧ c ≤ 57 := by
  have h := of_decide_eq_true h
  simp only [List.mem_cons, List.not_mem_nil, or_false] at h
  omega
theorem plainB_parts {u : List Nat} (h : plainB u = true) : 1 ≤ (dgW u).length ∧ (dgW u).length ≤ 6 ∧ (∀ c ∈ dgW u, 48 ≤ c ∧ c ≤ 57) := by
  unfold plainB at h
  obtain ⟨h1, h⟩ := and_ok h
  obtain ⟨h2, h⟩ := and_ok h
  obtain ⟨h3, h⟩ := and_ok h
  exact ⟨of_decide_eq_true h1, of_decide_eq_true h2, fun c hc => isDg_of (List.all_eq_true.mp h3 c hc)⟩
theorem dgW_or (u : List Nat) : (u = 45 :: dgW u) ∨ dgW u = u := by
  unfold dgW
  cases u with
  | nil => exact .inr rfl
  | cons c r =>
    by_cases h : c = 45
    · subst h
      exact .inl rfl
    · refine .inr ?_
      rw [if_neg (by simpa using h)]
theorem plain_total {u : List Nat} (h : plainB u = true) : u.length ≤ 7 ∧ ∃ n, intText? (SX.S u) = some n := by
  obtain ⟨h1, h2, h3⟩ := plainB_parts h
  have ne : dgW u ≠ [] := fun z => by rw [z] at h1; exact absurd h1 (by decide)
  rcases dgW_or u with e | e
  · have l7 : u.length ≤ 7 := by rw [e, List.length_cons]; omega
    exact ⟨l7, _, intText_neg (x := SX.S u) (cs := dgW u) e h3 ne (by rw [SX.S_len]; omega)⟩
  · rw [e] at h1 h2 h3 ne
    exact ⟨by omega, _, SX.int_S (a := u) (by
      rw [List.all_eq_true]
      intro c hc
      rw [decide_eq_true (h3 c hc).1, decide_eq_true (h3 c hc).2]
      rfl) ne (by omega)⟩
theorem pf_is (u : List Nat) : PlainIs u (pf u) := by
  unfold pf
  cases h : plainB u with
  | false => exact .inl ⟨h, rfl⟩
  | true =>
    obtain ⟨l7, n, e⟩ := plain_total h
    exact .inr ⟨h, by omega, n, e, by rw [if_pos rfl, e]⟩
theorem pf_num {n : Int} (h : n.natAbs < 10 ^ 6) : pf (wNum n) = some n := (pf_is _).uniq (plain_num h)
theorem pf_none {u : List Nat} (h : plainB u = false) : pf u = none := by unfold pf; rw [h]; rfl
theorem pf_plain {u : List Nat} (h : pf u ≠ none) : plainB u = true := by
  cases e : plainB u with
  | true => rfl
  | false => exact absurd (pf_none e) h
theorem pfs_are {ws : List (List Nat)} (h : ∀ u ∈ ws, u.length ≤ 1000000) : PlainsAre ws (ws.map pf) := by
  refine ⟨List.length_map _, fun i u o e1 e2 => ?_⟩
  rw [List.getElem?_map, e1] at e2
  cases e2
  exact ⟨pf_is u, h u (List.mem_of_getElem? e1)⟩
def rdNs (ws : List (List Nat)) : Option (List Int) := sqI (ws.map pf)
theorem rdNs_nums : ∀ {ns : List Int}, Few ns → rdNs (ns.map wNum) = some ns
  | [], _ => rfl
  | n :: r, h => by
    have ih := rdNs_nums (ns := r) fun m hm => h m (List.mem_cons_of_mem _ hm)
    unfold rdNs at ih ⊢
    rw [List.map_cons, List.map_cons, pf_num (h n List.mem_cons_self)]
    show (sqI ((r.map wNum).map pf)).map (n :: ·) = _
    rw [ih]
    rfl
theorem rdNs_plain : ∀ {ws : List (List Nat)} {ns : List Int}, rdNs ws = some ns → ∀ u ∈ ws, plainB u = true
  | [], _, _, u, hu => by cases hu
  | v :: r, ns, h, u, hu => by
    have h : sqI (pf v :: r.map pf) = some ns := h
    cases e : pf v with
    | none => rw [e] at h; cases h
    | some n =>
      rw [e] at h
      obtain ⟨ms, h2, _⟩ := Option.map_eq_some_iff.mp (show (sqI (r.map pf)).map (n :: ·) = some ns from h)
      rcases List.mem_cons.mp hu with rfl | hu
      · exact pf_plain (by rw [e]; exact fun z => nomatch z)
      · exact rdNs_plain (ws := r) h2 u hu
/-! ### places of words -/
def posOf (z : List Nat) : List (List Nat) → Nat
  | [] => 0
  | u :: r => if u = z then 0 else posOf z r + 1
theorem posOf_at {z : List Nat} : ∀ {ws : List (List Nat)}, z ∈ ws → ws[posOf z ws]? = some z
  | [], h => by cases h
  | u :: r, h => by
    unfold posOf
    by_cases e : u = z
    · rw [if_pos e, e]; rfl
    · rw [if_neg e]
      rcases List.mem_cons.mp h with h | h
      · exact absurd h.symm e
      · show r[posOf z r]? = some z
        exact posOf_at h
theorem posOf_no {z : List Nat} : ∀ {ws : List (List Nat)} {m : Nat} {u : List Nat}, m < posOf z ws → ws[m]? = some u → u ≠ z
  | [], _, _, _, e => by simp at e
  | v :: r, m, u, h, e => by
    unfold posOf at h
    by_cases q : v = z
    · rw [if_pos q] at h; omega
    · rw [if_neg q] at h
      cases m with
      | zero => cases e; exact q
      | succ m =>
        have h' : m < posOf z r := by omega
        have e' : r[m]? = some u := by simpa using e
        exact posOf_no h' e'
theorem posOf_app {z : List Nat} : ∀ {xs ys : List (List Nat)}, z ∉ xs → posOf z (xs ++ z :: ys) = xs.length
  | [], ys, _ => by show (if z = z then 0 else _) = 0; rw [if_pos rfl]
  | u :: r, ys, h => by
    show (if u = z then 0 else posOf z (r ++ z :: ys) + 1) = r.length + 1
    rw [if_neg fun e => h (by rw [e]; exact List.mem_cons_self), posOf_app fun q => h (List.mem_cons_of_mem _ q)]
theorem count_W (z : List Nat) (ws : List (List Nat)) : countIn (.str (SX.S z)) ((ws.map SX.S).map PyData.str) = ((ws.count z : Nat) : Int) := by
  induction ws with
  | nil => rfl
  | cons u r ih =>
    rw [List.map_cons, List.map_cons]
    show (if same (.str (SX.S u)) (.str (SX.S z)) = true then 1 else 0) + countIn (.str (SX.S z)) ((r.map SX.S).map PyData.str) = _
    rw [ih, List.count_cons]
    by_cases e : u = z
    · subst e
      rw [if_pos (by simp [same]), if_pos (by simp)]
      omega
    · rw [if_neg (by
        intro h
        have : SX.S u = SX.S z := by simpa [same] using h
        exact e (SX.S_inj this)), if_neg (by simpa using e)]
      omega
end My
set_option Elab.async false
set_option linter.all false
set_option maxRecDepth 100000
set_option maxHeartbeats 8000000
namespace My
open PySem PySem.Spec PyProof.Rows L2
local macro_rules | `(tactic| walk_at "lv") => `(tactic| first | exact Or.inl rfl | exact Or.inr rfl)
/-! ### what a row of words tells, by data -/
abbrev Desc := Int × Int × List Int × Int × List Int × List Int
def endsD : List Int → Option (Int × Int × Int)
  | [a, b, c] => some (a, b, c)
  | _ => none
def tellD : Option (List Int) → Option (List Int) → Option (List Int) → Option (List Int) → Option Desc
  | some es, some is, some us, some ds => (endsD es).map fun e => (e.1, e.2.1, is, e.2.2, us, ds)
  | _, _, _, _ => none
def goodW (ws : List (List Nat)) : Prop := ws[3]? = some wInside ∧ ws.count wUps = 1 ∧ ws.count wDowns = 1
instance (ws : List (List Nat)) : Decidable (goodW ws) := inferInstanceAs (Decidable (_ ∧ _ ∧ _))
def midW (ws : List (List Nat)) (i j : Nat) : List (List Nat) := (ws.take j).drop i
def descOf (ws : List (List Nat)) : Option Desc :=
  if goodW ws then if 3 < posOf wUps ws ∧ posOf wUps ws < posOf wDowns ws then
    tellD (rdNs (ws.take 3)) (rdNs (midW ws 4 (posOf wUps ws))) (rdNs (midW ws (posOf wUps ws + 1) (posOf wDowns ws))) (rdNs (ws.drop (posOf wDowns ws + 1)))
  else none else none
theorem num_ne {n : Int} (h : n.natAbs < 10 ^ 6) {z : List Nat} (hz : plainB z = false) : wNum n ≠ z := fun e => by
  have h1 : plainB (wNum n) = true := pf_plain (by rw [pf_num h]; exact fun z => nomatch z)
  rw [e, hz] at h1
  cases h1
theorem nums_ne {ns : List Int} (h : Few ns) {z : List Nat} (hz : plainB z = false) : z ∉ ns.map wNum := fun hm => by
  obtain ⟨n, hn, e⟩ := List.mem_map.mp hm
  exact num_ne (h n hn) hz e
theorem p_ups : plainB wUps = false := by decide
theorem p_downs : plainB wDowns = false := by decide
theorem p_inside : plainB wInside = false := by decide
section
variable {lo hi m : Int} {ins us ds : List Int}
def heW (lo hi m : Int) (ins : List Int) : List (List Nat) := [wNum lo, wNum hi, wNum m, wInside] ++ ins.map wNum
def miW (lo hi m : Int) (ins us : List Int) : List (List Nat) := heW lo hi m ins ++ (wUps :: us.map wNum)
theorem lotWs_he : lotWs lo hi ins m us ds = heW lo hi m ins ++ wUps :: (us.map wNum ++ (wDowns :: ds.map wNum)) := by
  unfold lotWs heW
  rw [List.append_assoc]
theorem lotWs_mi : lotWs lo hi ins m us ds = miW lo hi m ins us ++ wDowns :: ds.map wNum := by
  rw [lotWs_he]
  unfold miW
  rw [List.append_assoc]
  rfl
theorem heW_no {z : List Nat} (h : Few [lo, hi, m]) (h1 : Few ins) (hz : plainB z = false) (hi' : wInside ≠ z) : z ∉ heW lo hi m ins := fun hm => by
  unfold heW at hm
  rcases List.mem_append.mp hm with q | q
  · rcases List.mem_cons.mp q with q | q
    · exact num_ne (h lo (by simp)) hz q.symm
    rcases List.mem_cons.mp q with q | q
    · exact num_ne (h hi (by simp)) hz q.symm
    rcases List.mem_cons.mp q with q | q
    · exact num_ne (h m (by simp)) hz q.symm
    · exact hi' (List.mem_singleton.mp q).symm
  · exact nums_ne h1 hz q
theorem miW_no (h : Few [lo, hi, m]) (h1 : Few ins) (h2 : Few us) : wDowns ∉ miW lo hi m ins us := fun hm => by
  unfold miW at hm
  rcases List.mem_append.mp hm with q | q
  · exact heW_no h h1 p_downs (by decide) q
  rcases List.mem_cons.mp q with q | q
  · exact absurd q (by decide)
  · exact nums_ne h2 p_downs q
theorem heW_len : (heW lo hi m ins).length = 4 + ins.length := by
  unfold heW
  rw [List.length_append, List.length_map]
  rfl
theorem miW_len : (miW lo hi m ins us).length = 5 + ins.length + us.length := by
  unfold miW
  rw [List.length_append, heW_len, List.length_cons, List.length_map]
  omega
theorem few_ends (h : Few [lo, hi, m]) : rdNs [wNum lo, wNum hi, wNum m] = some [lo, hi, m] := rdNs_nums (ns := [lo, hi, m]) h
theorem descOf_lot (h : Few [lo, hi, m]) (h1 : Few ins) (h2 : Few us) (h3 : Few ds) : descOf (lotWs lo hi ins m us ds) = some (lo, hi, ins, m, us, ds) := by
  have pu : posOf wUps (lotWs lo hi ins m us ds) = 4 + ins.length := by
    rw [lotWs_he, posOf_app (heW_no h h1 p_ups (by decide)), heW_len]
  have pd : posOf wDowns (lotWs lo hi ins m us ds) = 5 + ins.length + us.length := by
    rw [lotWs_mi, posOf_app (miW_no h h1 h2), miW_len]
  have c1 : (lotWs lo hi ins m us ds).count wUps = 1 := by
    rw [lotWs_he, List.count_append, List.count_eq_zero_of_not_mem (heW_no h h1 p_ups (by decide)), List.count_cons_self, List.count_append, List.count_eq_zero_of_not_mem (nums_ne h2 p_ups), List.count_cons_of_ne (by decide), List.count_eq_zero_of_not_mem (nums_ne h3 p_ups)]
  have c2 : (lotWs lo hi ins m us ds).count wDowns = 1 := by
    rw [lotWs_mi, List.count_append, List.count_eq_zero_of_not_mem (miW_no h h1 h2), List.count_cons_self, List.count_eq_zero_of_not_mem (nums_ne h3 p_downs)]
  have t0 : (lotWs lo hi ins m us ds).take 3 = [wNum lo, wNum hi, wNum m] := rfl
  have t1 : midW (lotWs lo hi ins m us ds) 4 (4 + ins.length) = ins.map wNum := by
    unfold midW
    rw [lotWs_he, List.take_left' heW_len]
    rfl
  have t2 : midW (lotWs lo hi ins m us ds) (4 + ins.length + 1) (5 + ins.length + us.length) = us.map wNum := by
    unfold midW
    rw [lotWs_mi, List.take_left' miW_len]
    unfold miW
    rw [show heW lo hi m ins ++ wUps :: us.map wNum = (heW lo hi m ins ++ [wUps]) ++ us.map wNum from by rw [List.append_assoc]; rfl]
    exact List.drop_left' (by rw [List.length_append, heW_len]; rfl)
  have t3 : (lotWs lo hi ins m us ds).drop (5 + ins.length + us.length + 1) = ds.map wNum := by
    rw [lotWs_mi, show miW lo hi m ins us ++ wDowns :: ds.map wNum = (miW lo hi m ins us ++ [wDowns]) ++ ds.map wNum from by rw [List.append_assoc]; rfl]
    exact List.drop_left' (by rw [List.length_append, miW_len]; rfl)
  have g : goodW (lotWs lo hi ins m us ds) := ⟨rfl, c1, c2⟩
  unfold descOf
  rw [if_pos g, pu, pd, if_pos (by omega), t0, t1, t2, t3, few_ends h, rdNs_nums h1, rdNs_nums h2, rdNs_nums h3]
  rfl
end
theorem tellD_all {a b c d : Option (List Int)} {z : Desc} (h : tellD a b c d = some z) : a ≠ none ∧ b ≠ none ∧ c ≠ none ∧ d ≠ none := by
  cases a <;> cases b <;> cases c <;> cases d <;> first | cases h | exact ⟨(fun z => nomatch z), (fun z => nomatch z), (fun z => nomatch z), (fun z => nomatch z)⟩
theorem rdNs_at {ws : List (List Nat)} (h : rdNs ws ≠ none) {u : List Nat} (hu : u ∈ ws) : plainB u = true := by
  cases e : rdNs ws with
  | none => exact absurd e h
  | some ns => exact rdNs_plain e u hu
theorem mid_mem {ws : List (List Nat)} {i j k : Nat} {u : List Nat} (e : ws[k]? = some u) (h1 : i ≤ k) (h2 : k < j) : u ∈ midW ws i j := by
  unfold midW
  refine List.mem_of_getElem? (i := k - i) ?_
  rw [List.getElem?_drop, List.getElem?_take, if_pos (by omega), show i + (k - i) = k from by omega]
  exact e
theorem posOf_mem {z : List Nat} {ws : List (List Nat)} (h : ws.count z = 1) : ws[posOf z ws]? = some z := posOf_at (List.count_pos_iff.mp (by omega))
/-- each word of a good row but the fourth -/
theorem descOf_words {ws : List (List Nat)} {z : Desc} (h : descOf ws = some z) {i : Nat} {u : List Nat} (e : ws[i]? = some u) (ne : i ≠ 3) : plainB u = true ∨ u = wUps ∨ u = wDowns := by
  unfold descOf at h
  by_cases g : goodW ws
  · rw [if_pos g] at h
    by_cases b : 3 < posOf wUps ws ∧ posOf wUps ws < posOf wDowns ws
    · rw [if_pos b] at h
      obtain ⟨g1, g2, g3, g4⟩ := tellD_all h
      obtain ⟨_, cu, cd⟩ := g
      have au := posOf_mem cu
      have ad := posOf_mem cd
      by_cases q0 : i < 3
      · refine .inl (rdNs_at g1 (List.mem_of_getElem? (i := i) ?_))
        rw [List.getElem?_take, if_pos q0]
        exact e
      by_cases q1 : i < posOf wUps ws
      · exact .inl (rdNs_at g2 (mid_mem e (by omega) q1))
      by_cases q2 : i = posOf wUps ws
      · rw [q2, au] at e
        cases e
        exact .inr (.inl rfl)
      by_cases q3 : i < posOf wDowns ws
      · exact .inl (rdNs_at g3 (mid_mem e (by omega) q3))
      by_cases q4 : i = posOf wDowns ws
      · rw [q4, ad] at e
        cases e
        exact .inr (.inr rfl)
      · refine .inl (rdNs_at g4 (List.mem_of_getElem? (i := i - (posOf wDowns ws + 1)) ?_))
        rw [List.getElem?_drop, show posOf wDowns ws + 1 + (i - (posOf wDowns ws + 1)) = i from by omega]
        exact e
    · rw [if_neg b] at h
      cases h
  · rw [if_neg g] at h
    cases h
/-- a word that is no number and no mark -/
def OddW (u : List Nat) : Prop := plainB u = false ∧ u ≠ wUps ∧ u ≠ wDowns
theorem descOf_bad {ws : List (List Nat)} {i : Nat} {u : List Nat} (e : ws[i]? = some u) (ne : i ≠ 3) (o : OddW u) : descOf ws = none := by
  cases h : descOf ws with
  | none => rfl
  | some z =>
    rcases descOf_words h e ne with q | q | q
    · rw [o.1] at q; cases q
    · exact absurd q o.2.1
    · exact absurd q o.2.2
theorem descOf_three {ws : List (List Nat)} {u : List Nat} (e : ws[3]? = some u) (ne : u ≠ wInside) : descOf ws = none := by
  unfold descOf
  rw [if_neg fun g => ne (by have := g.1; rw [e] at this; exact Option.some.inj this)]
theorem odd_inside : OddW wInside := ⟨by decide, by decide, by decide⟩
/-- a word exchanged (way 0) or put in (way 1) -/
theorem descOf_spoilt {ws : List (List Nat)} {i k : Nat} {u : List Nat} (g : ws[3]? = some wInside) (hi : i < ws.length) (hk : k = i + 1 ∨ k = i) (o : OddW u) (ne : ¬ (k = i + 1 ∧ u = wInside ∧ i = 3)) : descOf (ws.take i ++ [u] ++ ws.drop k) = none := by
  have ll : (ws.take i).length = i := by rw [List.length_take]; omega
  have ei : (ws.take i ++ [u] ++ ws.drop k)[i]? = some u := by
    rw [List.append_assoc, List.getElem?_append_right (by omega), ll, Nat.sub_self]
    rfl
  by_cases h3 : i = 3
  · by_cases hu : u = wInside
    · rcases hk with rfl | rfl
      · exact absurd ⟨rfl, hu, h3⟩ ne
      · refine descOf_bad (i := 4) (u := wInside) ?_ (by decide) odd_inside
        rw [List.getElem?_append_right (by rw [List.length_append, ll]; show k + 1 ≤ 4; omega), List.length_append, ll, List.getElem?_drop]
        show ws[k + (4 - (k + 1))]? = _
        rw [show k + (4 - (k + 1)) = 3 from by omega]
        exact g
    · rw [h3] at ei
      subst h3
      exact descOf_three ei hu
  · exact descOf_bad ei h3 o
theorem nl_plain (u : List Nat) : plainB (u ++ [10]) = false := by
  cases h : plainB (u ++ [10]) with
  | false => rfl
  | true =>
    obtain ⟨_, _, h3⟩ := plainB_parts h
    have hm : 10 ∈ dgW (u ++ [10]) := by
      rcases dgW_or (u ++ [10]) with e | e
      · have hm : 10 ∈ u ++ [10] := List.mem_append_right _ List.mem_cons_self
        rw [e] at hm
        rcases List.mem_cons.mp hm with q | q
        · cases q
        · exact q
      · rw [e]
        exact List.mem_append_right _ List.mem_cons_self
    have := h3 10 hm
    omega
theorem odd_nl (u : List Nat) : OddW (u ++ [10]) := by
  refine ⟨nl_plain u, fun e => ?_, fun e => ?_⟩
  · have : 10 ∈ wUps := by rw [← e]; exact List.mem_append_right _ List.mem_cons_self
    exact absurd this (by decide)
  · have : 10 ∈ wDowns := by rw [← e]; exact List.mem_append_right _ List.mem_cons_self
    exact absurd this (by decide)
theorem odd_nil : OddW [] := ⟨by decide, by decide, by decide⟩
theorem cut_mid {xs : List V} {i j : Nat} (h : i ≤ xs.length) : cutV xs (some (i : Int)) (some (j : Int)) = (xs.take j).drop i := by
  unfold cutV
  rw [HT.sIx_nat, HT.sIx_nat, Nat.min_eq_left h, List.drop_take]
  by_cases q : j ≤ xs.length
  · rw [Nat.min_eq_left q]
  · rw [Nat.min_eq_right (by omega), List.take_of_length_le (by rw [List.length_drop]; exact Nat.le_refl _), List.take_of_length_le (by rw [List.length_drop]; omega)]
end My
set_option Elab.async false
set_option linter.all false
set_option maxRecDepth 100000
set_option maxHeartbeats 8000000
namespace My
open PySem PySem.Spec PyProof.Rows L2
local macro_rules | `(tactic| walk_at "lv") => `(tactic| first | exact Or.inl rfl | exact Or.inr rfl)
section
variable {P : Program} {w : World} {K : PySem.W.Frag} {mg : Str → Option Value} {base : Heap}
/-! ### description_of_words -/
/-- None, or a list of numbers that is not of H0 -/
def NumV (H0 H : Hp) : Option (List Int) → V → Prop
  | none, y => y = .non
  | some ns, y => ∃ t, y = .ref t ∧ H t = some (.lst (ns.map V.int)) ∧ H0 t = none
theorem NumV.same {H0 H H' : Hp} {o : Option (List Int)} {y : V} (h : NumV H0 H o y) (s : Same H H') : NumV H0 H' o y := by
  cases o with
  | none => exact h
  | some ns =>
    obtain ⟨t, h1, h2, h3⟩ := h
    exact ⟨t, h1, s _ _ h2, h3⟩
theorem num_end {H0 H : Hp} {Q : VK} {o : Option (List Int)} (s0 : Same H0 H) (k : ∀ y H', Same H H' → NumV H0 H' o y → Q y H') : NumEnd H Q o := by
  cases o with
  | none => exact fun H' s => k _ H' s rfl
  | some ns => exact fun t H' s e n => k _ H' s ⟨t, rfl, e, s0.free n⟩
/-- None, or the six parts, the rows new -/
def DescV (H0 H : Hp) : Option Desc → V → Prop
  | none, y => y = .non
  | some (lo, hi, ins, m, us, ds), y => ∃ t a b c, y = .ref t ∧ H t = some (.tup [.int lo, .int hi, .ref a, .int m, .ref b, .ref c]) ∧ (H a = some (.lst (ins.map V.int)) ∧ H b = some (.lst (us.map V.int)) ∧ H c = some (.lst (ds.map V.int))) ∧ (H0 a = none ∧ H0 b = none ∧ H0 c = none)
/-- words that the machine can lay -/
def OkWs (ws : List (List Nat)) : Prop := ∀ u ∈ ws, u.length ≤ 1000000 ∧ SeqAt.shaped (.str (SX.S u)) = true
def spDow : Sp := fun vs H Q _ => ∃ (a : Addr) (ws : List (List Nat)), vs = [.ref a] ∧ H a = some (.lst (ws.map wordV)) ∧ ws.length ≤ 60000 ∧ OkWs ws ∧ ∀ y H', Same H H' → DescV H H' (descOf ws) y → Q y H'
theorem okWs_sub {ws xs : List (List Nat)} (h : OkWs ws) (k : ∀ u ∈ xs, u ∈ ws) : OkWs xs := fun u hu => h u (k u hu)
theorem pns_sp {a : Addr} {H0 H : Hp} {ws : List (List Nat)} {Q : VK} {E : XK} (e : H a = some (.lst (ws.map wordV))) (l : ws.length ≤ 60000) (ok : OkWs ws) (s0 : Same H0 H) (k : ∀ y H', Same H H' → NumV H0 H' (rdNs ws) y → Q y H') : spPns [.ref a] H Q E :=
  ⟨a, ws, ws.map pf, rfl, e, l, pfs_are fun u hu => (ok u hu).1, num_end s0 k⟩
theorem rdNs_len {ws : List (List Nat)} {ns : List Int} (h : rdNs ws = some ns) : ns.length = ws.length := by
  have := congrArg List.length (sqI_some h)
  rw [List.length_map, List.length_map, List.length_map] at this
  exact this.symm
theorem mid_sub {ws : List (List Nat)} {i j : Nat} : ∀ u ∈ midW ws i j, u ∈ ws := fun u hu => List.mem_of_mem_take (List.mem_of_mem_drop hu)
theorem mid_len {ws : List (List Nat)} {i j : Nat} : (midW ws i j).length ≤ ws.length := by
  unfold midW
  rw [List.length_drop, List.length_take]
  omega
theorem cut_midW {ws : List (List Nat)} {i j : Nat} (h : i ≤ ws.length) : cutV (ws.map wordV) (some (i : Int)) (some (j : Int)) = (midW ws i j).map wordV := by
  rw [cut_mid (by rw [List.length_map]; exact h)]
  unfold midW
  rw [List.map_drop, List.map_take]
theorem midW34 (ws : List (List Nat)) : midW ws 3 4 = (match ws[3]? with | some u => [u] | none => []) := by
  match ws with
  | [] => rfl
  | [_] => rfl
  | [_, _] => rfl
  | [_, _, _] => rfl
  | _ :: _ :: _ :: _ :: r => cases r <;> rfl
theorem words_dp {H : Hp} {a : Addr} {ws : List (List Nat)} (e : H a = some (.lst (ws.map wordV))) : Dp K H (.ref a) (.list (ws.map fun u => .str (SX.S u))) := by
  refine .lst (SqL.of e) ?_
  clear e
  induction ws with
  | nil => exact .nil
  | cons u r ih => exact .cons (.str _) ih
theorem words_shp {ws : List (List Nat)} (ok : OkWs ws) : SeqAt.shaped (.list (ws.map fun u => PyData.str (SX.S u))) = true := by
  refine (small_lst (n := 60) fun d hd => ?_).shaped (by decide)
  obtain ⟨u, hu, rfl⟩ := List.mem_map.mp hd
  have := (ok u hu).2
  unfold SeqAt.shaped at this
  exact ⟨(and_ok this).1, Nat.le_of_ble_eq_true (by kernel_rfl)⟩
theorem eq_inside (ws : List (List Nat)) : PyData.eqv (.list ((midW ws 3 4).map fun u => PyData.str (SX.S u))) (.list [.str "inside"]) = decide (ws[3]? = some wInside) := by
  rw [midW34]
  cases h : ws[3]? with
  | none =>
    rw [decide_eq_false (fun z => nomatch z)]
    rfl
  | some u =>
    rw [Bool.eq_iff_iff, s_inside]
    simp only [List.map_cons, List.map_nil, PyData.eqv, PyData.eqvAll, Bool.and_true, decide_eq_true_eq, beq_iff_eq, Option.some.injEq]
    exact ⟨fun e => SX.S_inj e, fun e => by rw [e]⟩
theorem words_strs (ws : List (List Nat)) : ws.map wordV = (ws.map SX.S).map V.str := by rw [List.map_map]; rfl
theorem cnt_sp {a : Addr} {H : Hp} {ws : List (List Nat)} {z : List Nat} {Q : VK} {s : Str} (e : H a = some (.lst (ws.map wordV))) (hs : s = SX.S z) (k : Q (.int ((ws.count z : Nat) : Int)) H) : rCntS K (.ref a) [.str s] H Q := by
  subst hs
  exact ⟨a, ws.map SX.S, SX.S z, rfl, rfl, SqL.of (by rw [← words_strs]; exact e), by rw [count_W]; exact k⟩
theorem idx_sp {a : Addr} {H : Hp} {ws : List (List Nat)} {z : List Nat} {Q : VK} {s : Str} (e : H a = some (.lst (ws.map wordV))) (hs : s = SX.S z) (c : ws.count z = 1) (k : Q (.int ((posOf z ws : Nat) : Int)) H) : rIndex K (.ref a) [.str s] H Q := by
  subst hs
  refine ⟨a, ws.map wordV, .str (SX.S z), posOf z ws, wordV z, rfl, rfl, SqL.of e, rfl, ?_, ?_, ?_, ?_, k⟩
  · rw [List.all_eq_true]
    intro v hv
    obtain ⟨u, _, rfl⟩ := List.mem_map.mp hv
    rfl
  · rw [List.getElem?_map, posOf_mem c]
    rfl
  · exact decide_eq_true (p := (SX.S z = SX.S z)) rfl
  · intro m v hm ev
    rw [List.getElem?_map] at ev
    obtain ⟨u, eu, rfl⟩ := Option.map_eq_some_iff.mp ev
    exact decide_eq_false (p := (SX.S u = SX.S z)) fun q => posOf_no hm eu (SX.S_inj q)
theorem notone {n : Nat} : (!decide (V.int ((n : Nat) : Int) = V.int 1)) = !decide (n = 1) := by
  congr 1
  rw [Bool.eq_iff_iff, decide_eq_true_eq, decide_eq_true_eq]
  constructor
  · intro h
    have := V.int.inj h
    omega
  · rintro rfl
    rfl
abbrev s_dow : Stmt := top 49
abbrev N_dow : List Str := ["words", "ups_at", "downs_at", "ends", "inside", "ups", "downs"]
theorem sc_dow : FnScope N_dow ["words"] (defScope s_dow) := ⟨rfl, rfl, rfl, by decide +kernel, rfl, by decide +kernel, by decide +kernel⟩
theorem kp_dow (F : At K mg "description_of_words" s_dow) (N : Nb mg) (G : Keeps CX0 P w K mg base "plain_numbers" 2 ["words"] spPns) : Keeps CX0 P w K mg base "description_of_words" 3 ["words"] spDow := by
  refine keeps_of F sc_dow (fun _ _ _ _ _ _ us hl => match us, hl with | [_], _ => rfl) (fun vs H Q E h => ?_) (fun f cdv A outer s H vs Q E hr h => ?_)
  · obtain ⟨a, ws, rfl, _⟩ := h
    rfl
  · obtain ⟨a, ws, rfl, ha, hl, ok, k⟩ := h
    refine ⟨_, (pss_cons (ps_if (PW.pt (pw_or (pt_cmpR (op_neD hr.units) (pe_slice sl_list (pv 0) (po_some pe_int) (po_some pe_int)) (pe_lst (pa_cons pe_str pa_nil)) (nomark _)) (pw_or (pt_cmpR op_ne (pe_bm PySem.F.plainAttrs_list PySem.F.slot_list_count PySem.F.type_list_count mt_scount (pv 0) (pa_cons pe_str pa_nil)) pe_int (nomark _)) (pw_or1 (pt_cmpR op_ne (pe_bm PySem.F.plainAttrs_list PySem.F.slot_list_count PySem.F.type_list_count mt_scount (pv 0) (pa_cons pe_str pa_nil)) pe_int (nomark _)))))) (pss_one (ps_ret pe_non)) pss_nil)
        (pss_cons (ps_set (i := 1) sc_dow.nd rfl (by walk_at "lv") (pe_bm PySem.F.plainAttrs_list PySem.F.slot_list_index PySem.F.type_list_index mt_index (pv 0) (pa_cons pe_str pa_nil)))
        (pss_cons (ps_set (i := 2) sc_dow.nd rfl (by walk_at "lv") (pe_bm PySem.F.plainAttrs_list PySem.F.slot_list_index PySem.F.type_list_index mt_index (pv 0) (pa_cons pe_str pa_nil)))
        (pss_cons (ps_if (pt_not (pt_chain op_lt op_lt pe_int (pv 1) (pv 2))) (pss_one (ps_ret pe_non)) pss_nil)
        (pss_cons (ps_set (i := 3) sc_dow.nd rfl (by walk_at "lv") (pe_k G hr (by rfl) pass0 (pa_cons (pe_slice sl_list (pv 0) po_none (po_some pe_int)) pa_nil)))
        (pss_cons (ps_set (i := 4) sc_dow.nd rfl (by walk_at "lv") (pe_k G hr (by rfl) pass0 (pa_cons (pe_slice sl_list (pv 0) (po_some pe_int) (po_some (pv 1))) pa_nil)))
        (pss_cons (ps_set (i := 5) sc_dow.nd rfl (by walk_at "lv") (pe_k G hr (by rfl) pass0 (pa_cons (pe_slice sl_list (pv 0) (po_some (pe_op op_add (pv 1) pe_int)) (po_some (pv 2))) pa_nil)))
        (pss_cons (ps_set (i := 6) sc_dow.nd rfl (by walk_at "lv") (pe_k G hr (by rfl) pass0 (pa_cons (pe_slice sl_list (pv 0) (po_some (pe_op op_add (pv 2) pe_int)) po_none) pa_nil)))
        (pss_cons (ps_if (PW.pt (pw_or (pt_cmpR op_isN (pv 3) pe_non (nomark _)) (pw_or (pt_cmpR op_isN (pv 4) pe_non (nomark _)) (pw_or (pt_cmpR op_isN (pv 5) pe_non (nomark _)) (pw_or1 (pt_cmpR op_isN (pv 6) pe_non (nomark _))))))) (pss_one (ps_ret pe_non)) pss_nil)
        (pss_one (ps_ret (pe_tup (pa_cons (pe_ix ix_list (pv 3) pe_int (fun _ _ => rfl)) (pa_cons (pe_ix ix_list (pv 3) pe_int (fun _ _ => rfl)) (pa_cons (pv 4) (pa_cons (pe_ix ix_list (pv 3) pe_int (fun _ _ => rfl)) (pa_cons (pv 5) (pa_cons (pv 6) pa_nil)))))))))))))))))), ?_⟩
    have bad : ∀ {H'}, Same H H' → descOf ws = none → Q .non H' := fun s e => k _ _ s (by rw [e]; exact rfl)
    have ty : ∀ {H'}, Same H H' → tyV K "list" (.ref a) H' := fun s => .inl ⟨rfl, _, SqL.of (s _ _ ha)⟩
    refine ⟨_, rfl, _, rfl, _, rfl, a, _, rfl, SqL.of ha, fun d0 n0 => ?_⟩
    have s1 := same_new (o := .lst (cutV (ws.map wordV) (some 3) (some 4))) (Same.refl H) n0
    refine ⟨by show 1 ≤ sizeLine; decide, fun d1 n1 => ?_⟩
    have s2 := same_new (o := .lst [.str "inside"]) s1 n1
    have e0 : (upd (upd H d0 (.lst (cutV (ws.map wordV) (some 3) (some 4)))) d1 (.lst [.str "inside"])) d0 = some (.lst ((midW ws 3 4).map wordV)) := by
      rw [upd_ne (fun z => by rw [← z, upd_same] at n1; cases n1), upd_same]
      by_cases h3 : 3 ≤ ws.length
      · exact congrArg (fun z => some (HO.lst z)) (cut_midW (i := 3) (j := 4) h3)
      · have : (ws.map wordV).length < 3 := by rw [List.length_map]; omega
        rw [show midW ws 3 4 = [] from by unfold midW; rw [List.drop_eq_nil_iff, List.length_take]; omega]
        unfold cutV
        rw [show (some (3 : Int)) = some ((3 : Nat) : Int) from rfl, HT.sIx_nat, List.drop_eq_nil_iff.mpr (by omega), List.take_nil]
        rfl
    have okm : OkWs (midW ws 3 4) := okWs_sub ok mid_sub
    refine ⟨_, _, words_dp e0, .lst (SqL.of upd_same) (.cons (.str _) .nil), words_shp okm, by kernel_rfl, _, rfl, ?_⟩
    rw [eq_inside]
    by_cases c3 : ws[3]? = some wInside
    case neg =>
      rw [decide_eq_false c3]
      exact iteT (iteT (bad s2 (by unfold descOf; rw [if_neg fun g => c3 g.1])))
    rw [decide_eq_true c3]
    refine iteF ⟨_, rfl, ty s2, ?_⟩
    dsimp only [tNil, tCons, tC]
    refine cnt_sp (s2 _ _ ha) s_ups ?_
    refine ⟨rfl, _, rfl, ?_⟩
    rw [notone]
    by_cases cu : ws.count wUps = 1
    case neg =>
      rw [decide_eq_false cu]
      exact iteT (iteT (bad s2 (by unfold descOf; rw [if_neg fun g => cu g.2.1])))
    rw [decide_eq_true cu]
    refine iteF ⟨_, rfl, ty s2, ?_⟩
    dsimp only [tNil, tCons, tC]
    refine cnt_sp (s2 _ _ ha) s_downs ?_
    refine ⟨rfl, _, rfl, ?_⟩
    rw [notone]
    by_cases cd : ws.count wDowns = 1
    case neg =>
      rw [decide_eq_false cd]
      exact iteT (bad s2 (by unfold descOf; rw [if_neg fun g => cd g.2.2]))
    rw [decide_eq_true cd]
    refine iteF ⟨_, rfl, ty s2, ?_⟩
    dsimp only [tNil, tCons, tC]
    refine idx_sp (s2 _ _ ha) s_ups cu ?_
    refine ⟨_, rfl, ty s2, ?_⟩
    dsimp only [tNil, tCons, tC]
    refine idx_sp (s2 _ _ ha) s_downs cd ?_
    have g : goodW ws := ⟨c3, cu, cd⟩
    have l4 : 4 ≤ ws.length := by
      have := (List.getElem?_eq_some_iff.mp c3).1
      omega
    have lu : posOf wUps ws < ws.length := (List.getElem?_eq_some_iff.mp (posOf_mem cu)).1
    have ld : posOf wDowns ws < ws.length := (List.getElem?_eq_some_iff.mp (posOf_mem cd)).1
    refine ⟨_, rfl, _, _, rfl, rfl, _, rfl, ?_⟩
    by_cases b1 : 3 < posOf wUps ws
    case neg =>
      rw [decide_eq_false (p := ((3 : Int) < ((posOf wUps ws : Nat) : Int))) (by omega)]
      exact iteF ⟨_, rfl, iteT (bad s2 (by unfold descOf; rw [if_pos g, if_neg fun z => b1 z.1]))⟩
    rw [decide_eq_true (p := ((3 : Int) < ((posOf wUps ws : Nat) : Int))) (by omega)]
    refine iteT ⟨_, rfl, _, _, rfl, rfl, _, rfl, ?_⟩
    by_cases b2 : posOf wUps ws < posOf wDowns ws
    case neg =>
      rw [decide_eq_false (p := (((posOf wUps ws : Nat) : Int) < ((posOf wDowns ws : Nat) : Int))) (by omega)]
      exact iteT (bad s2 (by unfold descOf; rw [if_pos g, if_neg fun z => b2 z.2]))
    rw [decide_eq_true (p := (((posOf wUps ws : Nat) : Int) < ((posOf wDowns ws : Nat) : Int))) (by omega)]
    refine iteF ?_
    have ed : descOf ws = tellD (rdNs (ws.take 3)) (rdNs (midW ws 4 (posOf wUps ws))) (rdNs (midW ws (posOf wUps ws + 1) (posOf wDowns ws))) (rdNs (ws.drop (posOf wDowns ws + 1))) := by
      unfold descOf
      rw [if_pos g, if_pos ⟨b1, b2⟩]
    rw [ed] at k
    clear bad
    refine ⟨_, rfl, _, rfl, a, _, rfl, SqL.of (s2 _ _ ha), fun d2 n2 => ?_⟩
    have s3 := same_new (o := .lst (cutV (ws.map wordV) none (some 3))) s2 n2
    dsimp only [tNil, tCons, tC]
    refine pns_sp (ws := ws.take 3) (H0 := H) (by rw [upd_same, show (some (3 : Int)) = some ((3 : Nat) : Int) from rfl, cut_to, List.map_take]) (by rw [List.length_take]; omega) (okWs_sub ok fun u hu => List.mem_of_mem_take hu) s3 fun y3 H3 q3 v3 => ?_
    have s4 := s3.trans q3
    refine ⟨_, rfl, _, rfl, _, rfl, _, rfl, a, _, rfl, SqL.of (s4 _ _ ha), fun d4 n4 => ?_⟩
    have s5 := same_new (o := .lst (cutV (ws.map wordV) (some 4) (some ((posOf wUps ws : Nat) : Int)))) s4 n4
    dsimp only [tNil, tCons, tC]
    refine pns_sp (ws := midW ws 4 (posOf wUps ws)) (H0 := H) (by rw [upd_same]; exact congrArg (fun z => some (HO.lst z)) (cut_midW (i := 4) l4)) (Nat.le_trans mid_len hl) (okWs_sub ok mid_sub) s5 fun y4 H4 q4 v4 => ?_
    have s6 := s5.trans q4
    refine ⟨_, rfl, _, rfl, _, _, rfl, rfl, _, rfl, _, rfl, _, rfl, a, _, rfl, SqL.of (s6 _ _ ha), fun d6 n6 => ?_⟩
    have s7 := same_new (o := .lst (cutV (ws.map wordV) (some (((posOf wUps ws : Nat) : Int) + 1)) (some ((posOf wDowns ws : Nat) : Int)))) s6 n6
    dsimp only [tNil, tCons, tC]
    refine pns_sp (ws := midW ws (posOf wUps ws + 1) (posOf wDowns ws)) (H0 := H) (by rw [upd_same]; exact congrArg (fun z => some (HO.lst z)) (cut_midW (i := posOf wUps ws + 1) (by omega))) (Nat.le_trans mid_len hl) (okWs_sub ok mid_sub) s7 fun y5 H5 q5 v5 => ?_
    have s8 := s7.trans q5
    refine ⟨_, rfl, _, rfl, _, _, rfl, rfl, _, rfl, a, _, rfl, SqL.of (s8 _ _ ha), fun d8 n8 => ?_⟩
    have s9 := same_new (o := .lst (cutV (ws.map wordV) (some (((posOf wDowns ws : Nat) : Int) + 1)) none)) s8 n8
    dsimp only [tNil, tCons, tC]
    refine pns_sp (ws := ws.drop (posOf wDowns ws + 1)) (H0 := H) (by rw [upd_same]; exact congrArg (fun z => some (HO.lst z)) ((cut_from (i := posOf wDowns ws + 1)).trans (List.map_drop).symm)) (by rw [List.length_drop]; omega) (okWs_sub ok fun u hu => List.mem_of_mem_drop hu) s9 fun y6 H6 q6 v6 => ?_
    have sA := s9.trans q6
    have v3 := v3.same ((((((same_new (o := .lst (cutV (ws.map wordV) (some 4) (some ((posOf wUps ws : Nat) : Int)))) (Same.refl _) n4).trans q4).trans (same_new (Same.refl _) n6)).trans q5).trans (same_new (Same.refl _) n8)).trans q6)
    have v4 := v4.same ((((same_new (o := .lst (cutV (ws.map wordV) (some (((posOf wUps ws : Nat) : Int) + 1)) (some ((posOf wDowns ws : Nat) : Int)))) (Same.refl _) n6).trans q5).trans (same_new (Same.refl _) n8)).trans q6)
    have v5 := v5.same ((same_new (o := .lst (cutV (ws.map wordV) (some (((posOf wDowns ws : Nat) : Int) + 1)) none)) (Same.refl _) n8).trans q6)
    clear q3 q4 q5 q6 s1 s2 s3 s4 s5 s6 s7 s8 s9 n0 n1 n2 n4 n6 n8 ty e0
    refine ⟨_, rfl, rfl, _, rfl, ?_⟩
    cases h3 : rdNs (ws.take 3) with
    | none =>
      rw [h3] at v3 k
      have v3 : y3 = .non := v3
      subst v3
      exact iteT (iteT (k _ _ sA rfl))
    | some es =>
    rw [h3] at v3 k
    obtain ⟨t3, rfl, e3, n3⟩ := v3
    refine iteF ⟨_, rfl, rfl, _, rfl, ?_⟩
    cases h4 : rdNs (midW ws 4 (posOf wUps ws)) with
    | none =>
      rw [h4] at v4 k
      have v4 : y4 = .non := v4
      subst v4
      exact iteT (iteT (k _ _ sA rfl))
    | some is =>
    rw [h4] at v4 k
    obtain ⟨t4, rfl, e4, n4⟩ := v4
    refine iteF ⟨_, rfl, rfl, _, rfl, ?_⟩
    cases h5 : rdNs (midW ws (posOf wUps ws + 1) (posOf wDowns ws)) with
    | none =>
      rw [h5] at v5 k
      have v5 : y5 = .non := v5
      subst v5
      exact iteT (iteT (k _ _ sA rfl))
    | some us =>
    rw [h5] at v5 k
    obtain ⟨t5, rfl, e5, n5⟩ := v5
    refine iteF ⟨_, rfl, rfl, _, rfl, ?_⟩
    cases h6 : rdNs (ws.drop (posOf wDowns ws + 1)) with
    | none =>
      rw [h6] at v6 k
      have v6 : y6 = .non := v6
      subst v6
      exact iteT (k _ _ sA rfl)
    | some ds =>
    rw [h6] at v6 k
    obtain ⟨t6, rfl, e6, n6⟩ := v6
    refine iteF ?_
    have le := rdNs_len h3
    rw [List.length_take, Nat.min_eq_left (by omega)] at le
    match es, le with
    | [lo, hi, m], _ =>
    refine ⟨_, rfl, t3, _, _, _, rfl, rfl, SqL.of e3, rfl, _, rfl, t3, _, _, _, rfl, rfl, SqL.of e3, rfl, _, rfl, _, rfl, t3, _, _, _, rfl, rfl, SqL.of e3, rfl, _, rfl, _, rfl, (by show 6 ≤ sizeLine; decide), fun t nt => ?_⟩
    have sn := same_new (o := .tup [.int lo, .int hi, .ref t4, .int m, .ref t5, .ref t6]) (Same.refl H6) nt
    exact k (.ref t) _ (sA.trans sn) ⟨t, t4, t5, t6, rfl, upd_same, ⟨sn _ _ e4, sn _ _ e5, sn _ _ e6⟩, n4, n5, n6⟩
end
end My
set_option Elab.async false
set_option linter.all false
set_option maxRecDepth 100000
set_option maxHeartbeats 8000000
namespace My
open PySem PySem.Spec PyProof.Rows L2
local macro_rules | `(tactic| walk_at "lv") => `(tactic| first | exact Or.inl rfl | exact Or.inr rfl)
section
variable {P : Program} {w : World} {K : PySem.W.Frag} {mg : Str → Option Value} {base : Heap}
/-- x(*y), x a def of the module that keeps sp -/
theorem pe_kS {X : L2.Cx} {CX : CXT} {k : Nat} {ps : List Str} {sp : Sp} {E : XK} {x : Str} {p pos sp_ : Pos} {e : Expr} {te : TE} (h : Keeps CX X.prog X.w X.K X.mg X.base x k ps sp) (hr : Room k X.A) (hg : Gl X x) (hx : Passes CX X E)
    (he : PE X e te) (dbg : (x == ("__debug__" : Str)) = false := by decide) (hst : starEach [.Starred e sp_] X.env = [(true, eval e X.env)] := by rfl) :
    PE X (.Call (.Name x p) [.Starred e sp_] [] pos) (fun σ H Q => te σ H fun y H1 => ∃ a xs, y = V.ref a ∧ (SqT X.K H1 a xs ∨ SqL X.K H1 a xs) ∧ sp xs H1 Q E) := by
  obtain ⟨fd, F, b, kp, m⟩ := h
  exact StX.pe_callS1 ((F.raw b .nil).imp fun vs H Q E h => by rw [List.append_nil]; exact h) hr kp hg m hx he dbg hst
/-! ### read_lot -/
def descO : Option (List (List Nat)) → Option Desc
  | none => none
  | some ws => descOf ws
def intsD (ns : List Int) : PyData := .list (ns.map PyData.int)
def RdLotE (K : PySem.W.Frag) (H : Hp) (Q : VK) (E : XK) : Option Desc → Prop
  | none => OutA K E H "BadText" lineBad
  | some (lo, hi, ins, m, us, ds) => (ins.length ≤ 900 ∧ us.length ≤ 900 ∧ ds.length ≤ 900) ∧ ∀ a b c H', Same H H' → H' a = some (.lst (ins.map V.int)) → H' b = some (.lst (us.map V.int)) → H' c = some (.lst (ds.map V.int)) →
      MakeEnd K (fun z => OutA K E H "BadLot" (lotBad z)) (fun x y z => ∀ H2, Same H' H2 → spLotOf K [.int x, .int y, .ref a, .int z, .ref b, .ref c] H2 Q E) (.int lo) (.int hi) (intsD ins) (.int m) (intsD us) (intsD ds)
def spRdLot (K : PySem.W.Frag) : Sp := fun vs H Q E => ∃ (p : Addr) (zs : List V) (v : V) (d : PyData) (o : Option (List (List Nat))), vs = [v] ∧ H p = some (.lst zs) ∧ Tg p H v d ∧ TextIs d o ∧ (∀ ws, o = some ws → ws.length ≤ 60000 ∧ OkWs ws) ∧ RdLotE K H Q E (descO o)
theorem rowX_ints {p a : Addr} {H : Hp} {ns : List Int} (e : H a = some (.lst (ns.map V.int))) (ne : a ≠ p) : RowX p H (.ref a) (intsD ns) := by
  refine .inl (.lst e ne (tgAll_ints ns) ((small_lst (n := 60) fun d hd => ?_).shaped (by decide)))
  obtain ⟨n, _, rfl⟩ := List.mem_map.mp hd
  exact ⟨by kernel_rfl, Nat.le_of_ble_eq_true (by kernel_rfl)⟩
theorem len_ints {ns : List Int} (l : ns.length ≤ 900) : Len900 (intsD ns) := fun ds e => by
  cases e
  rw [List.length_map]
  exact l
abbrev s_rdlot : Stmt := top 50
abbrev N_rdlot : List Str := ["text", "description"]
theorem sc_rdlot : FnScope N_rdlot ["text"] (defScope s_rdlot) := ⟨rfl, rfl, rfl, by decide +kernel, rfl, by decide +kernel, by decide +kernel⟩
theorem kp_rdlot (F : At K mg "read_lot" s_rdlot) (N : Nb mg) (S : ErrA P w K mg base "BadText" ["line", "what"]) (Gd : Keeps CX0 P w K mg base "description_of_words" 3 ["words"] spDow) (Gm : Keeps (CX P w) P w K mg base "make_lot" 4 ["low", "high", "inside", "modulus", "ups", "downs"] (spMakeT K)) :
    Keeps (CX P w) P w K mg base "read_lot" 5 ["text"] (spRdLot K) := by
  refine keeps_ofX F sc_rdlot (fun _ _ _ _ _ _ us hl => match us, hl with | [_], _ => rfl) (fun vs H Q E h => ?_) (fun f cdv A outer s H vs Q E hr h => ?_)
  · obtain ⟨p, zs, v, d, o, rfl, _⟩ := h
    rfl
  · obtain ⟨p, zs, v, d, o, rfl, hp, tv, tx, wo, k⟩ := h
    have h3 : Room 3 (A.deeper (envOfC "read_lot" (defScope s_rdlot) s.heap.objs.size f cdv)) := hr.mono (by decide)
    have h2 : Room 2 (A.deeper (envOfC "read_lot" (defScope s_rdlot) s.heap.objs.size f cdv)) := hr.mono (by decide)
    refine ⟨_, (C8.pss_cut (ps_set (i := 1) sc_rdlot.nd rfl (by walk_at "lv") (pe_ifExp (pt_val (pe_callB call_isi (by rfl) N.isinstance boot_isinstance (pa_cons (pv 0) (pa_cons (pe_bltn (v := .ty "str") (by rfl) N.str (by decide +kernel) rfl) pa_nil)))) (pe_k Gd h3 (by rfl) pass0 (pa_cons (pe_split (pv 0) pe_str) pa_nil)) pe_non))
        (pss_cons (ps_if (pt_cmpR op_isN (pv 1) pe_non (nomark _)) (pss_one (ps_raise rfl (takes_of rfl rfl rfl rfl) (by exact pmk_e S h2 (by rfl) (pa_cons pe_int (pa_cons pe_str pa_nil))))) pss_nil)
        (pss_one (ps_ret (pe_kS Gm hr (by rfl) (passes_call (takes_of rfl rfl rfl rfl) (fun _ _ _ _ h => h)) (pv 1)))))), ?_⟩
    refine ⟨fun σ H' => ∃ y, σ = [some v, some y] ∧ Same H H' ∧ DescV H H' (descO o) y, ?_, ?_⟩
    · refine ⟨_, rfl, ?_⟩
      dsimp only [tNil, tCons, tC]
      refine isi_str tv.dp ?_
      refine ⟨_, rfl, ?_⟩
      rcases tx with ⟨z, ws, rfl, lz, rfl, sp⟩ | ⟨nd, rfl⟩
      · cases tv
        refine iteT ?_
        refine ⟨_, rfl, ⟨_, rfl⟩, z, _, rfl, rfl, (by rw [s_sp, SX.S_len]; rfl), (by rw [sizeLine_eq]; omega), fun a na => ?_⟩
        have s1 := same_new (o := .lst ((Txt.split z (" " : Str)).map V.str)) (Same.refl H) na
        obtain ⟨w1, w2⟩ := wo _ rfl
        refine ⟨a, ws, rfl, by rw [upd_same, sp, List.map_map]; rfl, w1, w2, fun y H2 s2 dv => ⟨y, rfl, s1.trans s2, ?_⟩⟩
        show DescV H H2 (descOf ws) y
        revert dv
        cases descOf ws with
        | none => exact id
        | some q =>
          obtain ⟨lo, hi, ins, m, us, ds⟩ := q
          rintro ⟨t, a1, b1, c1, h1, h2, h3, n1, n2, n3⟩
          exact ⟨t, a1, b1, c1, h1, h2, h3, s1.free n1, s1.free n2, s1.free n3⟩
      · rw [nd]
        exact iteF ⟨.non, rfl, Same.refl H, rfl⟩
    · rintro _ H1 ⟨y, rfl, s1, dv⟩
      revert dv k
      cases descO o with
      | none =>
        intro k dv
        have k : OutA K E H "BadText" lineBad := k
        have dv : y = .non := dv
        subst dv
        refine ⟨_, rfl, rfl, _, rfl, iteT ?_⟩
        exact mko_ok (K := K) (ys := [.int 1, .str "line"]) (fun _ q => q) rfl (by show 2 ≤ 1000; decide) fun dd H2 s2 ed => k dd H2 (s1.trans s2) ed
      | some q =>
        obtain ⟨lo, hi, ins, m, us, ds⟩ := q
        rintro ⟨⟨l1, l2, l3⟩, k⟩ ⟨t, a, b, c, rfl, et, ⟨ea, eb, ec⟩, na, nb, nc⟩
        have ne : ∀ {x : Addr}, H x = none → x ≠ p := fun n z => by rw [z, hp] at n; cases n
        refine ⟨_, rfl, rfl, _, rfl, iteF ⟨_, rfl, t, _, rfl, .inl (SqT.of et), ?_⟩⟩
        refine ⟨p, _, _, _, _, _, _, _, _, _, _, _, _, rfl, .int lo, .int hi, rowX_ints ea (ne na), .int m, rowX_ints eb (ne nb), rowX_ints ec (ne nc), ⟨len_ints l1, len_ints l2, len_ints l3⟩, ?_⟩
        have q := k a b c H1 s1 ea eb ec
        refine ⟨fun h => (q.1 h).same s1, fun x y ex ey hc => ?_⟩
        obtain ⟨q1, q2⟩ := q.2 x y ex ey hc
        refine ⟨fun h => (q1 h).same s1, fun h => ?_⟩
        obtain ⟨q3, q4⟩ := q2 h
        refine ⟨fun h => (q3 h).same s1, fun z ez h1 h2 => ?_⟩
        obtain ⟨q5, q6⟩ := q4 z ez h1 h2
        refine ⟨fun h => (q5 h).same s1, fun h => ?_⟩
        obtain ⟨q7, q8⟩ := q6 h
        exact ⟨fun h => (q7 h).same s1, fun h => q8 h⟩
end
end My
set_option Elab.async false
set_option linter.all false
set_option maxRecDepth 100000
set_option maxHeartbeats 8000000
namespace My
open PySem PySem.Spec PyProof.Rows L2
local macro_rules | `(tactic| walk_at "lv") => `(tactic| first | exact Or.inl rfl | exact Or.inr rfl)
section
variable {p g : Addr} {H H' : Hp}
/-- all but what stands at p and at g stays -/
def But2 (p g : Addr) (H H' : Hp) : Prop := ∀ b o, b ≠ p → b ≠ g → H b = some o → H' b = some o
mutual
theorem Tg.two (k : But2 p g H H') : ∀ (d : PyData) (x : V), Tg p H x d → Tg g H x d → Tg g H' x d
  | .none, _, h, _ => by cases h; exact .non
  | .bool b, _, h, _ => by cases h; exact .bl b
  | .int n, _, h, _ => by cases h; exact .int n
  | .str z, _, h, _ => by cases h with | str _ sh => exact .str z sh
  | .list ds, _, h, h' => by
    cases h with
    | lst e ne r sh => cases h' with | lst e' ne' r' _ => rw [e] at e'; cases e'; exact .lst (k _ _ ne ne' e) ne' (TgAll.two k ds _ r r') sh
  | .tuple ds, _, h, h' => by
    cases h with
    | tup e ne r sh => cases h' with | tup e' ne' r' _ => rw [e] at e'; cases e'; exact .tup (k _ _ ne ne' e) ne' (TgAll.two k ds _ r r') sh
  | .dict _, _, h, _ => by cases h
theorem TgAll.two (k : But2 p g H H') : ∀ (ds : List PyData) (xs : List V), TgAll p H xs ds → TgAll g H xs ds → TgAll g H' xs ds
  | [], _, h, _ => by cases h; exact .nil
  | d :: ds, _, h, h' => by
    cases h with
    | cons a r => cases h' with | cons a' r' => exact .cons (Tg.two k d _ a a') (TgAll.two k ds _ r r')
end
mutual
theorem Tg.new (n : H g = none) : ∀ (d : PyData) (x : V), Tg p H x d → Tg g H x d
  | .none, _, h => by cases h; exact .non
  | .bool b, _, h => by cases h; exact .bl b
  | .int n, _, h => by cases h; exact .int n
  | .str z, _, h => by cases h with | str _ sh => exact .str z sh
  | .list ds, _, h => by cases h with | lst e ne r sh => exact .lst e (ne_of_none e n) (TgAll.new n ds _ r) sh
  | .tuple ds, _, h => by cases h with | tup e ne r sh => exact .tup e (ne_of_none e n) (TgAll.new n ds _ r) sh
  | .dict _, _, h => by cases h
theorem TgAll.new (n : H g = none) : ∀ (ds : List PyData) (xs : List V), TgAll p H xs ds → TgAll g H xs ds
  | [], _, h => by cases h; exact .nil
  | d :: ds, _, h => by cases h with | cons a r => exact .cons (Tg.new n d _ a) (TgAll.new n ds _ r)
end
end
section
variable {P : Program} {w : World} {K : PySem.W.Frag} {mg : Str → Option Value} {base : Heap}
/-! ### _law_as -/
def shp2 (ds : List PyData) : Prop := SeqAt.shaped (.list ds) = true ∧ SeqAt.shaped (.tuple ds) = true
theorem shp2_of {ds : List PyData} (h : ∀ d ∈ ds, Small 60 d) : shp2 ds := ⟨(small_lst h).shaped (by decide), (small_tup h).shaped (by decide)⟩
def SqData (d : PyData) (ds : List PyData) : Prop := d = .list ds ∨ d = .tuple ds
def spAs : Sp := fun vs H Q _ => ∃ (p c a : Addr) (xs : List V) (ds : List PyData), vs = [.ref p, .ref a] ∧ HandC H p c ∧ H a = some (.lst xs) ∧ a ≠ p ∧ TgAll p H xs ds ∧ shp2 ds ∧
  ∀ x d H', HandC H' p c → But p H H' → Tg p H' x d → (∀ g o, H g = some o → TgAll g H xs ds → Tg g H' x d) → SqData d ds → Q x H'
abbrev s_as : Stmt := top 55
abbrev N_as : List Str := ["_law_hand_here", "_law_rows"]
theorem sc_as : FnScope N_as ["_law_hand_here", "_law_rows"] (defScope s_as) := ⟨rfl, rfl, rfl, by decide +kernel, rfl, by decide +kernel, by decide +kernel⟩
theorem kp_as (F : At K mg "_law_as" s_as) (N : Nb mg) (G : Keeps CX0 P w K mg base "_law_draw" 2 ["_law_hand_here", "_law_many"] spDraw) : Keeps CX0 P w K mg base "_law_as" 3 ["_law_hand_here", "_law_rows"] spAs := by
  refine keeps_of F sc_as (fun _ _ _ _ _ _ us hl => match us, hl with | [_, _], _ => rfl) (fun vs H Q E h => ?_) (fun f cdv A outer s H vs Q E hr h => ?_)
  · obtain ⟨p, c, a, xs, ds, rfl, _⟩ := h
    rfl
  · obtain ⟨p, c, a, xs, ds, rfl, hh, ha, ne, tg, ⟨sl, st⟩, k⟩ := h
    refine ⟨_, (pss_one (ps_ret (pe_ifExp (pt_cmpR op_eq (pe_k G hr (by rfl) pass0 (pa_cons (pv 0) (pa_cons pe_int pa_nil))) pe_int (nomark _)) (pe_callTy call_list_of (by rfl) N.list (by decide +kernel) (pa_cons (pv 1) pa_nil)) (pe_callTy call_tuple_of (by rfl) N.tuple (by decide +kernel) (pa_cons (pv 1) pa_nil))))), ?_⟩
    refine ⟨_, rfl, p, c, 2, rfl, hh, ⟨by decide, by decide⟩, fun r H1 r0 r1 h1 b1 => ?_⟩
    have ha1 := b1 _ _ ne ha
    have offg : ∀ {g l : Addr} {o : HO}, H g = some o → H1 l = none → l ≠ g := fun {g l o} eg hl z => by
      subst z
      by_cases q : l = p
      · obtain ⟨_, _, _, _, e, _⟩ := h1
        rw [q, e] at hl
        cases hl
      · rw [b1 _ _ q eg] at hl
        cases hl
    refine ⟨rfl, _, rfl, ite2 (fun _ => ?_) (fun _ => ?_)⟩
    · refine ⟨_, rfl, a, _, rfl, .inl (SqL.of ha1), fun l hl => ?_⟩
      have s := same_new (o := .lst xs) (Same.refl H1) hl
      have lp : l ≠ p := fun z => by
        obtain ⟨_, _, _, _, e, _⟩ := h1
        rw [z, e] at hl
        cases hl
      exact k _ _ _ (h1.same s) (b1.trans (But.of s)) (.lst upd_same lp ((TgAll.but b1 _ _ tg).same s) sl) (fun g o eg tg' => .lst upd_same (offg eg hl) (TgAll.two (fun b o nb _ e => s _ _ (b1 _ _ nb e)) _ _ tg tg') sl) (.inl rfl)
    · refine ⟨_, rfl, a, _, rfl, .inl ⟨SqL.of ha1, fun l hl => ?_⟩⟩
      have s := same_new (o := .tup xs) (Same.refl H1) hl
      have lp : l ≠ p := fun z => by
        obtain ⟨_, _, _, _, e, _⟩ := h1
        rw [z, e] at hl
        cases hl
      exact k _ _ _ (h1.same s) (b1.trans (But.of s)) (.tup upd_same lp ((TgAll.but b1 _ _ tg).same s) st) (fun g o eg tg' => .tup upd_same (offg eg hl) (TgAll.two (fun b o nb _ e => s _ _ (b1 _ _ nb e)) _ _ tg tg') st) (.inr rfl)
/-! ### _law_number_odd -/
def spNo : Sp := fun vs H Q _ => ∃ (p c : Addr), vs = [.ref p] ∧ HandC H p c ∧ ∀ x d H', HandC H' p c → But p H H' → Tg p H' x d → (∀ g o, H g = some o → Tg g H' x d) → isIntD d = false → Small 3 d → Q x H'
abbrev s_no : Stmt := top 65
abbrev N_no : List Str := ["_law_hand_here"]
theorem sc_no : FnScope N_no ["_law_hand_here"] (defScope s_no) := ⟨rfl, rfl, rfl, by decide +kernel, rfl, by decide +kernel, by decide +kernel⟩
theorem HandC.off {H : Hp} {p c a : Addr} (h : HandC H p c) (n : H a = none) : a ≠ p := fun z => by
  obtain ⟨_, _, _, _, e, _⟩ := h
  rw [z, e] at n
  cases n
theorem kp_no (F : At K mg "_law_number_odd" s_no) (G : Keeps CX0 P w K mg base "_law_draw" 2 ["_law_hand_here", "_law_many"] spDraw) : Keeps CX0 P w K mg base "_law_number_odd" 3 ["_law_hand_here"] spNo := by
  refine keeps_of F sc_no (fun _ _ _ _ _ _ us hl => match us, hl with | [_], _ => rfl) (fun vs H Q E h => ?_) (fun f cdv A outer s H vs Q E hr h => ?_)
  · obtain ⟨p, c, rfl, _⟩ := h
    rfl
  · obtain ⟨p, c, rfl, hh, k⟩ := h
    refine ⟨_, (pss_one (ps_ret (pe_ix ix_tup (pe_tup (pa_cons pe_bl (pa_cons pe_bl (pa_cons pe_non (pa_cons pe_str (pa_cons (pe_tup (pa_cons pe_int pa_nil)) (pa_cons (pe_lst (pa_cons pe_int pa_nil)) pa_nil))))))) (pe_k G hr (by rfl) pass0 (pa_cons (pv 0) (pa_cons pe_int pa_nil))) (fun _ _ => rfl)))), ?_⟩
    refine ⟨(by show 1 ≤ sizeLine; decide), fun t n1 => ⟨(by show 1 ≤ sizeLine; decide), fun l n2 => ⟨(by show 6 ≤ sizeLine; decide), fun o n3 => ?_⟩⟩⟩
    have s1 := same_new (o := .tup [.int 1]) (Same.refl H) n1
    have s12 := same_new (o := .lst [.int 2]) (Same.refl _) n2
    have s2 := s1.trans s12
    have s23 := same_new (o := .tup [.bl true, .bl false, .non, .str "1", .ref t, .ref l]) (Same.refl _) n3
    have s3 := s2.trans s23
    refine ⟨_, rfl, p, c, 6, rfl, hh.same s3, ⟨by decide, by decide⟩, fun r H1 r0 r1 h1 b1 => ?_⟩
    have tp : t ≠ p := hh.off n1
    have lp : l ≠ p := (hh.same s1).off n2
    have op : o ≠ p := (hh.same s2).off n3
    have b := (But.of s3).trans b1 (p := p)
    have et : H1 t = some (.tup [.int 1]) := b1 _ _ tp (s23 _ _ (s12 _ _ upd_same))
    have el : H1 l = some (.lst [.int 2]) := b1 _ _ lp (s23 _ _ upd_same)
    obtain ⟨v, e1, e2⟩ := atI_of (xs := [V.bl true, .bl false, .non, .str "1", .ref t, .ref l]) r0 r1
    refine ⟨o, _, _, _, rfl, rfl, SqT.of (b1 _ _ op upd_same), e2, ?_⟩
    have sm : ∀ {d : PyData}, d.canLay0 = true → Nat.ble d.depth 3 = true → Small 3 d := fun h1 h2 => ⟨h1, Nat.le_of_ble_eq_true h2⟩
    have i6 : r.toNat < 6 := by omega
    revert e1
    generalize r.toNat = i at i6
    match i, i6 with
    | 0, _ => intro e; cases e; exact k _ _ _ h1 b (.bl true) (fun _ _ _ => .bl true) rfl (sm (by kernel_rfl) (by kernel_rfl))
    | 1, _ => intro e; cases e; exact k _ _ _ h1 b (.bl false) (fun _ _ _ => .bl false) rfl (sm (by kernel_rfl) (by kernel_rfl))
    | 2, _ => intro e; cases e; exact k _ _ _ h1 b .non (fun _ _ _ => .non) rfl (sm (by kernel_rfl) (by kernel_rfl))
    | 3, _ => intro e; cases e; exact k _ _ _ h1 b (.str "1" (by kernel_rfl)) (fun _ _ _ => .str "1" (by kernel_rfl)) rfl (sm (by kernel_rfl) (by kernel_rfl))
    | 4, _ => intro e; cases e; exact k _ _ _ h1 b (.tup et tp (.cons (.int 1) .nil) (by kernel_rfl)) (fun g o eg => .tup et (fun z => by rw [z, eg] at n1; cases n1) (.cons (.int 1) .nil) (by kernel_rfl)) rfl (sm (by kernel_rfl) (by kernel_rfl))
    | 5, _ => intro e; cases e; exact k _ _ _ h1 b (.lst el lp (.cons (.int 2) .nil) (by kernel_rfl)) (fun g o eg => .lst el (fun z => by have q := s1.free n2; rw [z, eg] at q; cases q) (.cons (.int 2) .nil) (by kernel_rfl)) rfl (sm (by kernel_rfl) (by kernel_rfl))
end
end My
set_option Elab.async false
set_option linter.all false
set_option maxRecDepth 100000
set_option maxHeartbeats 8000000
namespace My
open PySem PySem.Spec PyProof.Rows L2
local macro_rules | `(tactic| walk_at "lv") => `(tactic| first | exact Or.inl rfl | exact Or.inr rfl)
section
variable {P : Program} {w : World} {K : PySem.W.Frag} {mg : Str → Option Value} {base : Heap}
/-! ### _law_turned -/
def spTurned : Sp := fun vs H Q _ => ∃ (p c a : Addr) (ns : List Int), vs = [.ref p, .ref a] ∧ HandC H p c ∧ H a = some (.lst (ns.map V.int)) ∧ ns.length ≤ 1000 ∧ ∀ q (ms : List Int) H', ms.Perm ns → HandC H' p c → But p H H' → H q = none → H' q = some (.lst (ms.map V.int)) → Q (.ref q) H'
abbrev s_turned : Stmt := top 56
abbrev N_turned : List Str := ["_law_hand_here", "_law_rows", "_law_left", "_law_out", "_law_k"]
theorem sc_turned : FnScope N_turned ["_law_hand_here", "_law_rows"] (defScope s_turned) := ⟨rfl, rfl, rfl, by decide +kernel, rfl, by decide +kernel, by decide +kernel⟩
theorem kp_turned (F : At K mg "_law_turned" s_turned) (GD : Keeps CX0 P w K mg base "_law_draw" 2 ["_law_hand_here", "_law_many"] spDraw) (N : Nb mg) : Keeps CX0 P w K mg base "_law_turned" 3 ["_law_hand_here", "_law_rows"] spTurned := by
  refine keeps_of F sc_turned (fun _ _ _ _ _ _ us hl => match us, hl with | [_, _], _ => rfl) (fun vs H Q E h => ?_) (fun f cdv A outer s H vs Q E hr h => ?_)
  · obtain ⟨p, c, a, ns, rfl, _⟩ := h
    rfl
  · obtain ⟨p, c, a, ns, rfl, hh, ha, hl, k⟩ := h
    refine ⟨_, (pss_cons (ps_set (i := 2) sc_turned.nd rfl (by walk_at "lv") (pe_callTy call_list_of (by rfl) N.list (by decide +kernel) (pa_cons (pv 1) pa_nil)))
        (pss_cons (ps_set (i := 3) sc_turned.nd rfl (by walk_at "lv") (pe_lst pa_nil))
        (pss_cons (ps_for PassesOwn.never rfl (pi_range1 (by rfl) N.range (pa_cons (pe_callB call_len_seq (by rfl) N.len (by decide +kernel) (pa_cons (pv 2) pa_nil)) pa_nil)) (pg_name (i := 4) sc_turned.nd rfl (by walk_at "lv")) (pss_one (ps_expr (pe_bm PySem.F.plainAttrs_list PySem.F.slot_list_append PySem.F.type_list_append mt_append (pv 3) (pa_cons (pe_bm PySem.F.plainAttrs_list PySem.F.slot_list_pop PySem.F.type_list_pop mt_popAt (pv 2) (pa_cons (pe_k GD hr (by rfl) pass0 (pa_cons (pv 0) (pa_cons (pe_callB call_len_seq (by rfl) N.len (by decide +kernel) (pa_cons (pv 2) pa_nil)) pa_nil))) pa_nil)) pa_nil)))))
        (pss_one (ps_ret (pv 3)))))), ?_⟩
    refine ⟨_, rfl, a, _, rfl, .inl (SqL.of ha), fun l hl' => ?_⟩
    refine ⟨(by show 0 ≤ sizeLine; decide), fun o ho => ?_⟩
    have hlo : l ≠ o := ne_of_none upd_same ho
    have hn1 := hh.ne hl'
    have ho' : H o = none := by rw [upd_ne hlo.symm] at ho; exact ho
    have hn2 := hh.ne ho'
    refine ⟨_, rfl, l, _, rfl, .inl (SqL.of (by rw [upd_ne hlo]; exact upd_same)), _, rfl, by rw [List.length_map]; omega, by rw [List.length_map]; omega, ?_⟩
    rw [List.length_map]
    refine for_range (lo := 0) (n := ns.length) (fun i σ H2 => ∃ (x : Option V) (rest out : List Int), σ = [some (.ref p), some (.ref a), some (.ref l), some (.ref o), x] ∧ H2 l = some (.lst (rest.map V.int)) ∧ H2 o = some (.lst (out.map V.int)) ∧ (out ++ rest).Perm ns ∧ rest.length + i = ns.length ∧ HandC H2 p c ∧ But p H H2)
      ⟨_, ns, [], rfl, by rw [upd_ne hlo]; exact upd_same, upd_same, List.Perm.refl _, rfl, (hh.upd hn1.1 hn1.2).upd hn2.1 hn2.2, fun b z hb e => by rw [upd_ne (ne_of_none e ho'), upd_ne (ne_of_none e hl')]; exact e⟩ ?_ ?_
    · rintro i σ H2 hi ⟨x, rest, out, rfl, e1, e2, pm, hlen, h2, b2⟩
      have hpl : l ≠ p := hn1.1.symm
      have hpo : o ≠ p := hn2.1.symm
      refine ⟨_, rfl, .inl ⟨rfl, _, SqL.of e2⟩, _, rfl, .inl ⟨rfl, _, SqL.of e1⟩, _, rfl, _, rfl, l, _, rfl, .inl (SqL.of e1), ?_⟩
      rw [List.length_map]
      refine ⟨p, c, _, rfl, h2, ⟨by omega, log_small (by omega)⟩, fun r H3 r0 r1 h3 b3 => ?_⟩
      have hix : ixN (rest.map V.int).length r = some r.toNat := by
        unfold ixN
        rw [if_pos r0, if_pos (by rw [List.length_map]; exact r1)]
      have hrt : r.toNat < rest.length := by omega
      have hget : (rest.map V.int)[r.toNat]? = some (V.int rest[r.toNat]) := by
        rw [List.getElem?_map, List.getElem?_eq_getElem hrt]
        rfl
      refine ⟨l, _, r, r.toNat, _, rfl, rfl, b3 _ _ hpl e1, by omega, by omega, (ixN_seq hix).1, hget, ?_⟩
      refine ⟨o, _, _, rfl, rfl, by rw [upd_ne hlo.symm]; exact b3 _ _ hpo e2, ?_, ?_⟩
      · rw [List.length_map]
        have := pm.length_eq
        rw [List.length_append] at this
        exact small1000 (by omega)
      · refine ⟨_, rest.eraseIdx r.toNat, out ++ [rest[r.toNat]], rfl, ?_, ?_, ?_, ?_, (h3.upd hn1.1 hn1.2).upd hn2.1 hn2.2, fun b z hb e => ?_⟩
        · rw [upd_ne hlo, upd_same, erase_map]
        · rw [List.map_append]
          exact upd_same
        · refine List.Perm.trans ?_ pm
          rw [List.append_assoc]
          exact List.Perm.append_left _ (perm_erase hrt)
        · rw [List.length_eraseIdx_of_lt hrt]
          omega
        · rw [upd_ne (ne_of_none e ho'), upd_ne (ne_of_none e hl')]
          exact b3 _ _ hb (b2 _ _ hb e)
    · rintro σ H2 ⟨x, rest, out, rfl, e1, e2, pm, hlen, h2, b2⟩
      have : rest = [] := List.length_eq_zero_iff.mp (by omega)
      subst this
      rw [List.append_nil] at pm
      exact ⟨_, rfl, k o out H2 pm h2 b2 ho' e2⟩
end
end My
set_option Elab.async false
set_option linter.all false
set_option maxRecDepth 100000
set_option maxHeartbeats 8000000
namespace My
open PySem PySem.Spec PyProof.Rows L2
local macro_rules | `(tactic| walk_at "lv") => `(tactic| first | exact Or.inl rfl | exact Or.inr rfl)
section
variable {P : Program} {w : World} {K : PySem.W.Frag} {mg : Str → Option Value} {base : Heap}
/-! ### _law_letter, _law_test -/
def spLet : Sp := fun vs H Q _ => ∃ a b : Int, vs = [.int a, .int b, .int 1] ∧ (0 ≤ a ∧ a < 8) ∧ (0 ≤ b ∧ b < 1000) ∧ ∀ t (L : Lt) H', L.Ok → Same H H' → H' t = some (.tup L.vs) → H t = none → Q (.ref t) H'
abbrev s_let : Stmt := top 67
abbrev N_let : List Str := ["_law_a", "_law_b", "_law_wide", "_law_many", "_law_pick"]
theorem sc_let : FnScope N_let ["_law_a", "_law_b", "_law_wide"] (defScope s_let) := ⟨rfl, rfl, rfl, by decide +kernel, rfl, by decide +kernel, by decide +kernel⟩
theorem kp_let (F : At K mg "_law_letter" s_let) (N : Nb mg) : Keeps CX0 P w K mg base "_law_letter" 1 ["_law_a", "_law_b", "_law_wide"] spLet := by
  refine keeps_of F sc_let (fun _ _ _ _ _ _ us hl => match us, hl with | [_, _, _], _ => rfl) (fun vs H Q E h => ?_) (fun f cdv A outer s H vs Q E hr h => ?_)
  · obtain ⟨a, b, rfl, _⟩ := h
    rfl
  · obtain ⟨a, b, rfl, ⟨a0, a8⟩, ⟨b0, b9⟩, k⟩ := h
    refine ⟨_, (pss_cons (ps_set (i := 3) sc_let.nd rfl (by walk_at "lv") (pe_ifExp (pt_truth (pv 2) (fun _ => rfl)) pe_int pe_int))
        (pss_cons (ps_set (i := 4) sc_let.nd rfl (by walk_at "lv") (pe_op op_mod (pe_callTy call_int1 (by rfl) N.int boot_int (pa_cons (pv 0) pa_nil)) pe_int))
        (pss_cons (ps_if (pt_cmpR op_lt (pv 4) pe_int (nomark _)) (pss_one (ps_ret (pe_tup (pa_cons pe_str (pa_cons (pe_ifExp (pt_cmpR op_lt (pv 4) pe_int (nomark _)) (pe_op op_sub (pe_op op_mod (pe_callTy call_int1 (by rfl) N.int boot_int (pa_cons (pv 1) pa_nil)) (pe_op op_add (pe_op op_mul pe_int (pv 3)) pe_int)) (pv 3)) (pe_ix ix_tup (pe_tup (pa_cons pe_int (pa_cons (pe_un un_neg pe_int) (pa_cons pe_int (pa_cons (pe_un un_neg pe_int) (pa_cons pe_int pa_nil)))))) (pe_op op_mod (pe_callTy call_int1 (by rfl) N.int boot_int (pa_cons (pv 1) pa_nil)) pe_int) (fun _ _ => rfl))) pa_nil))))) pss_nil)
        (pss_cons (ps_if (pt_cmpR op_eq (pv 4) pe_int (nomark _)) (pss_one (ps_ret (pe_tup (pa_cons pe_str pa_nil)))) pss_nil)
        (pss_cons (ps_if (pt_cmpR op_eq (pv 4) pe_int (nomark _)) (pss_one (ps_ret (pe_tup (pa_cons pe_str (pa_cons (pe_op op_sub (pe_op op_mod (pe_callTy call_int1 (by rfl) N.int boot_int (pa_cons (pv 1) pa_nil)) (pe_op op_add (pe_op op_mul pe_int (pv 3)) pe_int)) (pv 3)) pa_nil))))) pss_nil)
        (pss_one (ps_ret (pe_tup (pa_cons pe_str (pa_cons (pe_op op_add pe_int (pe_op op_mod (pe_callTy call_int1 (by rfl) N.int boot_int (pa_cons (pv 1) pa_nil)) (pe_ifExp (pt_truth (pv 2) (fun _ => rfl)) pe_int pe_int))) pa_nil)))))))))), ?_⟩
    have new : ∀ (L : Lt) (t : Addr), L.Ok → H t = none → Q (.ref t) (upd H t (.tup L.vs)) := fun L t ok n => k t L _ ok (same_new (Same.refl H) n) upd_same n
    refine ⟨_, rfl, _, rfl, iteT ?_⟩
    refine ⟨_, rfl, .inl ⟨_, rfl, _, _, rfl, rfl, (Int.lt_of_lt_of_le (by decide) (Int.le_refl _)), ?_⟩⟩
    refine ⟨_, rfl, _, _, rfl, rfl, _, rfl, ite2 (fun _ => ?_) (fun _ => ?_)⟩
    · refine ⟨_, rfl, _, _, rfl, rfl, _, rfl, ite2 (fun _ => ?_) (fun _ => ?_)⟩
      · refine ⟨_, rfl, .inl ⟨_, rfl, _, rfl, _, _, rfl, rfl, .inl ⟨by decide, by decide⟩, _, _, rfl, rfl, _, _, rfl, rfl, (Int.lt_of_lt_of_le (by decide) (Int.le_refl _)), _, rfl, _, _, rfl, rfl, (by show 2 ≤ sizeLine; decide), fun t n => ?_⟩⟩
        exact new (.add (b % (2 * 20 + 1) - 20)) t ⟨by omega, by omega⟩ n
      · refine ⟨_, rfl, _, rfl, (by show 5 ≤ sizeLine; decide), fun o no => ?_⟩
        have so := same_new (o := .tup [.int 1, .int (-1), .int 2, .int (-2), .int 3]) (Same.refl H) no
        refine ⟨_, rfl, .inl ⟨_, rfl, _, _, rfl, rfl, (Int.lt_of_lt_of_le (by decide) (Int.le_refl _)), ?_⟩⟩
        obtain ⟨v, e1, e2⟩ := atI_of (xs := [V.int 1, .int (-1), .int 2, .int (-2), .int 3]) (i := b % 5) (by omega) (by show b % 5 < 5; omega)
        refine ⟨o, _, _, _, rfl, rfl, SqT.of upd_same, e2, ?_⟩
        obtain ⟨y, rfl, y0, y1⟩ : ∃ y : Int, v = .int y ∧ -20 ≤ y ∧ y ≤ 20 := by
          revert e1
          have i5 : (b % 5).toNat < 5 := by omega
          generalize (b % 5).toNat = i at i5
          match i, i5 with
          | 0, _ => intro e; cases e; exact ⟨1, rfl, by decide, by decide⟩
          | 1, _ => intro e; cases e; exact ⟨-1, rfl, by decide, by decide⟩
          | 2, _ => intro e; cases e; exact ⟨2, rfl, by decide, by decide⟩
          | 3, _ => intro e; cases e; exact ⟨-2, rfl, by decide, by decide⟩
          | 4, _ => intro e; cases e; exact ⟨3, rfl, by decide, by decide⟩
        exact ⟨(by show 2 ≤ sizeLine; decide), fun t n => k t (.add y) _ ⟨y0, y1⟩ (same_new so n) upd_same (so.free n)⟩
    refine ⟨_, rfl, rfl, _, rfl, ite2 (fun _ => ?_) (fun _ => ?_)⟩
    · exact ⟨(by show 1 ≤ sizeLine; decide), fun t n => new .turn t trivial n⟩
    refine ⟨_, rfl, rfl, _, rfl, ite2 (fun _ => ?_) (fun _ => ?_)⟩
    · refine ⟨_, rfl, .inl ⟨_, rfl, _, rfl, _, _, rfl, rfl, .inl ⟨by decide, by decide⟩, _, _, rfl, rfl, _, _, rfl, rfl, (Int.lt_of_lt_of_le (by decide) (Int.le_refl _)), _, rfl, _, _, rfl, rfl, (by show 2 ≤ sizeLine; decide), fun t n => ?_⟩⟩
      exact new (.set (b % (2 * 20 + 1) - 20)) t ⟨by omega, by omega⟩ n
    refine ⟨_, rfl, .inl ⟨_, rfl, _, rfl, _, rfl, iteT ⟨_, _, rfl, rfl, (Int.lt_of_lt_of_le (by decide) (Int.le_refl _)), _, _, rfl, rfl, (by show 2 ≤ sizeLine; decide), fun t n => ?_⟩⟩⟩
    have e : ((1 : Int) + b % 6) = ((1 + b % 6).toNat : Int) := by omega
    dsimp only
    rw [e]
    exact new (.mod (1 + b % 6).toNat) t ⟨by omega, by omega⟩ n
def spTst : Sp := fun vs H Q _ => ∃ a b : Int, vs = [.int a, .int b, .int 1] ∧ (0 ≤ a ∧ a < 8) ∧ (0 ≤ b ∧ b < 1000) ∧ ∀ t (L : Ts) H', L.Ok → Same H H' → H' t = some (.tup L.vs) → H t = none → Q (.ref t) H'
abbrev s_tst : Stmt := top 68
abbrev N_tst : List Str := ["_law_a", "_law_b", "_law_wide", "_law_many", "_law_size"]
theorem sc_tst : FnScope N_tst ["_law_a", "_law_b", "_law_wide"] (defScope s_tst) := ⟨rfl, rfl, rfl, by decide +kernel, rfl, by decide +kernel, by decide +kernel⟩
theorem kp_tst (F : At K mg "_law_test" s_tst) (N : Nb mg) : Keeps CX0 P w K mg base "_law_test" 1 ["_law_a", "_law_b", "_law_wide"] spTst := by
  refine keeps_of F sc_tst (fun _ _ _ _ _ _ us hl => match us, hl with | [_, _, _], _ => rfl) (fun vs H Q E h => ?_) (fun f cdv A outer s H vs Q E hr h => ?_)
  · obtain ⟨a, b, rfl, _⟩ := h
    rfl
  · obtain ⟨a, b, rfl, ⟨a0, a8⟩, ⟨b0, b9⟩, k⟩ := h
    refine ⟨_, (pss_cons (ps_set (i := 3) sc_tst.nd rfl (by walk_at "lv") (pe_ifExp (pt_truth (pv 2) (fun _ => rfl)) pe_int pe_int))
        (pss_cons (ps_if (pt_cmpR op_eq (pe_op op_mod (pe_callTy call_int1 (by rfl) N.int boot_int (pa_cons (pv 0) pa_nil)) pe_int) pe_int (nomark _)) (pss_one (ps_ret (pe_tup (pa_cons pe_str (pa_cons (pe_op op_sub (pe_op op_mod (pe_callTy call_int1 (by rfl) N.int boot_int (pa_cons (pv 1) pa_nil)) (pe_op op_add (pe_op op_mul pe_int (pv 3)) pe_int)) (pv 3)) pa_nil))))) pss_nil)
        (pss_cons (ps_if (pt_cmpR op_eq (pe_op op_mod (pe_callTy call_int1 (by rfl) N.int boot_int (pa_cons (pv 0) pa_nil)) pe_int) pe_int (nomark _)) (pss_one (ps_ret (pe_tup (pa_cons pe_str (pa_cons (pe_op op_sub (pe_op op_mod (pe_callTy call_int1 (by rfl) N.int boot_int (pa_cons (pv 1) pa_nil)) (pe_op op_add (pe_op op_mul pe_int (pv 3)) pe_int)) (pv 3)) pa_nil))))) pss_nil)
        (pss_cons (ps_set (i := 4) sc_tst.nd rfl (by walk_at "lv") (pe_op op_add pe_int (pe_op op_mod (pe_callTy call_int1 (by rfl) N.int boot_int (pa_cons (pv 1) pa_nil)) (pe_ifExp (pt_truth (pv 2) (fun _ => rfl)) pe_int pe_int))))
        (pss_one (ps_ret (pe_tup (pa_cons pe_str (pa_cons (pv 4) (pa_cons (pe_op op_mod (pe_op op_fdiv (pe_callTy call_int1 (by rfl) N.int boot_int (pa_cons (pv 1) pa_nil)) pe_int) (pv 4)) pa_nil)))))))))), ?_⟩
    have new : ∀ (L : Ts) (t : Addr), L.Ok → H t = none → Q (.ref t) (upd H t (.tup L.vs)) := fun L t ok n => k t L _ ok (same_new (Same.refl H) n) upd_same n
    refine ⟨_, rfl, _, rfl, iteT ?_⟩
    refine ⟨_, rfl, .inl ⟨_, rfl, _, _, rfl, rfl, (Int.lt_of_lt_of_le (by decide) (Int.le_refl _)), rfl, _, rfl, ite2 (fun _ => ?_) (fun _ => ?_)⟩⟩
    · refine ⟨_, rfl, .inl ⟨_, rfl, _, rfl, _, _, rfl, rfl, .inl ⟨by decide, by decide⟩, _, _, rfl, rfl, _, _, rfl, rfl, (Int.lt_of_lt_of_le (by decide) (Int.le_refl _)), _, rfl, _, _, rfl, rfl, (by show 2 ≤ sizeLine; decide), fun t n => ?_⟩⟩
      exact new (.below (b % (2 * 20 + 1) - 20)) t ⟨by omega, by omega⟩ n
    refine ⟨_, rfl, .inl ⟨_, rfl, _, _, rfl, rfl, (Int.lt_of_lt_of_le (by decide) (Int.le_refl _)), rfl, _, rfl, ite2 (fun _ => ?_) (fun _ => ?_)⟩⟩
    · refine ⟨_, rfl, .inl ⟨_, rfl, _, rfl, _, _, rfl, rfl, .inl ⟨by decide, by decide⟩, _, _, rfl, rfl, _, _, rfl, rfl, (Int.lt_of_lt_of_le (by decide) (Int.le_refl _)), _, rfl, _, _, rfl, rfl, (by show 2 ≤ sizeLine; decide), fun t n => ?_⟩⟩
      exact new (.is (b % (2 * 20 + 1) - 20)) t ⟨by omega, by omega⟩ n
    refine ⟨_, rfl, .inl ⟨_, rfl, _, rfl, _, rfl, iteT ⟨_, _, rfl, rfl, (Int.lt_of_lt_of_le (by decide) (Int.le_refl _)), _, _, rfl, rfl, ?_⟩⟩⟩
    refine ⟨_, rfl, _, rfl, .inl ⟨_, rfl, _, _, rfl, rfl, (by exact ⟨by decide, by decide⟩), _, rfl, _, _, rfl, rfl, (by show (0 : Int) < 1 + b % 6; omega), (by show 3 ≤ sizeLine; decide), fun t n => ?_⟩⟩
    have e : ((1 : Int) + b % 6) = ((1 + b % 6).toNat : Int) := by omega
    dsimp only
    rw [e]
    have m0 : (0 : Int) < (((1 : Int) + b % 6).toNat : Int) := by omega
    refine new (.rest (1 + b % 6).toNat (b / 7 % ((1 + b % 6).toNat : Int))) t ⟨⟨by omega, by omega⟩, Int.emod_nonneg _ (by omega), Int.emod_lt_of_pos _ m0⟩ n
end
end My
set_option Elab.async false
set_option linter.all false
set_option maxRecDepth 100000
set_option maxHeartbeats 8000000
namespace My
open PySem PySem.Spec PyProof.Rows L2
local macro_rules | `(tactic| walk_at "lv") => `(tactic| first | exact Or.inl rfl | exact Or.inr rfl)
/-! ### isinstance(e, c) of the error that the suite holds, with its own dict -/
def rIsEd (K : PySem.W.Frag) (D a : Addr) (cls : Value) (d : Option Addr) : List V → Hp → VK → Prop := fun xs H Q => ∃ (c : V) (cv : Value) (b : Bool), xs = [.ref a, c] ∧ cls = .ref D ∧ (∀ u, RelV c u → u = cv) ∧ PySem.W.kitOne K (.ref D) cv = some b ∧ (∃ dd fs, d = some dd ∧ H dd = some (.xd fs)) ∧ Q (.bl b) H
theorem call_isEd {X : Cx} {x b : Str} {fs : List Str} {a : Addr} {oe : Obj} {cls : Value} {d : Option Addr} {pn : List (Addr × Obj)} (T : ExF X.K X.mg x b fs) (hn : PySem.W.specialIn X.K (.builtin "object.__class__") "__get__" = some (some (.builtin "getset_descriptor.__get__"))) (ht : PySem.W.takesIn X.K (.builtin "object.__class__") = some true)
    (hz : Zc cls d oe) (hf : ∃ vs, oe.data = .fields vs) : CallR (X.suite a ((a, oe) :: pn)) (.builtin "isinstance") (rIsEd X.K (He.ga X.K x) a cls d) := by
  intro pns s σ H xs us Q I r h
  obtain ⟨c, cv, bb, rfl, rfl, hcv, e, ⟨dd, f2, rfl, ed⟩, q⟩ := h
  cases r with
  | cons rx rr =>
    cases rr with
    | cons rt rr =>
      cases rr
      cases rx
      have ec := hcv _ rt
      subst ec
      obtain ⟨hget, _⟩ := I.pin (a, oe) (List.mem_append_left _ List.mem_cons_self)
      obtain ⟨vs, hd⟩ := hf
      obtain ⟨mA, hns, _⟩ := (show ObjOk X.prog X.w H s.heap dd (.xd f2) from I.hok dd _ ed)
      obtain ⟨o2, ho2, _⟩ := lookIn_ns hns
      have J : PySem.W.InstAt s.heap a oe (He.ga X.K x) (some o2) := ⟨hget, hz.1, by unfold PySem.W.notCls; rw [hd] <;> rfl, by rw [hz.2]; exact ho2⟩
      exact PySem.W.kia_one (PySem.W.kitx_exc T.cl T.ga T.gg T.exC T.ca hn ht T.mo) I.kIn J e (fun z => nomatch z) fun tk => ⟨.bl bb, H, I.tok tk, rfl, q⟩
/-- an error with attributes, in full -/
structure ErrF (P : Program) (w : World) (K : PySem.W.Frag) (mg : Str → Option Value) (base : Heap) (x : Str) (fs : List Str) : Prop where
  a : ErrA P w K mg base x fs
  xf : XfC K (He.ga K x)
  xm : PySem.W.exmOne K (.ref (He.ga K x)) (.ref (He.ga K x)) = some true
/-- what isinstance asks of every error -/
structure IsTxt (K : PySem.W.Frag) (mg : Str → Option Value) : Prop where
  gb : mg "BookError" = some (.ref (He.ga K "BookError"))
  hn : PySem.W.specialIn K (.builtin "object.__class__") "__get__" = some (some (.builtin "getset_descriptor.__get__"))
  ht : PySem.W.takesIn K (.builtin "object.__class__") = some true
theorem MakeEnd.mono {K : PySem.W.Frag} {bad bad' : Str → Prop} {good good' : Int → Int → Int → Prop} {a b c d e f : PyData} (hb : ∀ z, bad z → bad' z) (hg : ∀ x y z, good x y z → good' x y z) (h : MakeEnd K bad good a b c d e f) : MakeEnd K bad' good' a b c d e f := by
  refine ⟨fun z => hb _ (h.1 z), fun x y e1 e2 hc => ?_⟩
  obtain ⟨q1, q2⟩ := h.2 x y e1 e2 hc
  refine ⟨fun z => hb _ (q1 z), fun z => ?_⟩
  obtain ⟨q3, q4⟩ := q2 z
  refine ⟨fun z => hb _ (q3 z), fun m e3 m1 m2 => ?_⟩
  obtain ⟨q5, q6⟩ := q4 m e3 m1 m2
  refine ⟨fun z => hb _ (q5 z), fun z => ?_⟩
  obtain ⟨q7, q8⟩ := q6 z
  exact ⟨fun z => hb _ (q7 z), fun z => hg _ _ _ (q8 z)⟩
/-- parts of a telling whose lot stays within the numbers -/
def LotGood (H : Hp) (vs : List V) (T : Tl) (fl fh : Int) (fm : Nat) : Prop := ∃ (a b c : Addr) (ins us ds : List Int), vs = [.int T.lo, .int T.hi, .ref a, .int T.us.length, .ref b, .ref c] ∧ T.Near ∧ T.cs.length < 1000 ∧ Told T ins us ds ∧ SqA H a (ins.map V.int) ∧ SqA H b (us.map V.int) ∧ SqA H c (ds.map V.int) ∧
  IsForm T.has T.U T.D fl fh fm ∧ -20000 ≤ fl ∧ fh ≤ 20000
theorem LotGood.sp {K : PySem.W.Frag} {H : Hp} {vs : List V} {T : Tl} {fl fh : Int} {fm : Nat} {Q : VK} {E : XK} (h : LotGood H vs T fl fh fm) (k : ∀ p H', Same H H' → LotAt (He.ga K "Lot") H' p fl fh (insOf T fl fh) fm (resOf T.U fm) (resOf T.D fm) → Q (.ref p) H') : spLotOf K vs H Q E := by
  obtain ⟨a, b, c, ins, us, ds, rfl, near, c9, told, ha, hb, hc, fo, l1, l2⟩ := h
  refine ⟨T, a, b, c, ins, us, ds, rfl, near, c9, told, ha, hb, hc, fun p lo hi d H' fo' _ _ s la => ?_, fun lo hi d dd H' fo' out _ _ => ?_⟩
  · obtain ⟨rfl, rfl, rfl⟩ := fo.unique fo'
    exact k p H' s la
  · obtain ⟨rfl, rfl, rfl⟩ := fo.unique fo'
    omega
theorem LotGood.same {H H' : Hp} {vs : List V} {T : Tl} {fl fh : Int} {fm : Nat} (s : Same H H') (h : LotGood H vs T fl fh fm) : LotGood H' vs T fl fh fm := by
  obtain ⟨a, b, c, ins, us, ds, e, near, c9, told, ha, hb, hc, r⟩ := h
  exact ⟨a, b, c, ins, us, ds, e, near, c9, told, ha.same s, hb.same s, hc.same s, r⟩
section
variable {P : Program} {w : World} {K : PySem.W.Frag} {mg : Str → Option Value} {base : Heap}
/-! ### _law_refused -/
def spRef : Sp := fun vs H Q _ => ∃ (p t : Addr) (xl xh xi xm xu xd : V) (dlo dhi di dm du dd : PyData), vs = [.ref t] ∧ H t = some (.lst [xl, xh, xi, xm, xu, xd]) ∧ Tg p H xl dlo ∧ Tg p H xh dhi ∧ RowX p H xi di ∧ Tg p H xm dm ∧ RowX p H xu du ∧ RowX p H xd dd ∧ (Len900 di ∧ Len900 du ∧ Len900 dd) ∧
  ∀ K : PySem.W.Frag, MakeEnd K (fun z => ∀ q H', Same H H' → H' q = some (.tup [.str "bad", .str z]) → Q (.ref q) H') (fun lo hi m => (∃ T fl fh fm, LotGood H [.int lo, .int hi, xi, .int m, xu, xd] T fl fh fm) ∧ ∀ q H', Same H H' → H' q = some (.tup [.str "good"]) → Q (.ref q) H') dlo dhi di dm du dd
abbrev s_ref : Stmt := top 69
abbrev N_ref : List Str := ["_law_parts_here", "e"]
theorem sc_ref : FnScope N_ref ["_law_parts_here"] (defScope s_ref) := ⟨rfl, rfl, rfl, by decide +kernel, rfl, by decide +kernel, by decide +kernel⟩
def tIx (K : PySem.W.Frag) (i : Int) : TE := tOp (rIxL K) (tVar 0) (tC (.int i))
def tSixL (K : PySem.W.Frag) : TA := tCons (tIx K 0) (tCons (tIx K 1) (tCons (tIx K 2) (tCons (tIx K 3) (tCons (tIx K 4) (tCons (tIx K 5) tNil)))))
def tIs (K : PySem.W.Frag) (x : Str) (a : Addr) (cls : Value) (d : Option Addr) (i : Nat) (c : V) : TE := tCB (rIsEd K (He.ga K x) a cls d) (tCons (tVar i) (tCons (tC c) tNil))
def tRefS (K : PySem.W.Frag) (a : Addr) (cls : Value) (d : Option Addr) : TS := tSeq (tIfS (tOr (tNot (tB (tIs K "BadLot" a cls d 1 (.ref (He.ga K "BookError"))))) (tOr (tNot (tB (tIs K "BadLot" a cls d 1 (.ty "ValueError")))) (tB (tIs K "BadLot" a cls d 1 (.ref (He.ga K "BadText")))))) (tRet (tTup (tCons (tC (.str "other")) tNil))) tNext)
  (tRet (tTup (tCons (tC (.str "bad")) (tCons (tXf a cls d (He.ga K "BadLot") "what" (tVar 1)) tNil))))
theorem kp_ref (F : At K mg "_law_refused" s_ref) (N : Nb mg) (S : ErrF P w K mg base "BadLot" ["what"]) (I : IsTxt K mg) (gT : mg "BadText" = some (.ref (He.ga K "BadText"))) (no : PySem.W.kitOne K (.ref (He.ga K "BadLot")) (.ref (He.ga K "BadText")) = some false)
    (Gm : Keeps (CX P w) P w K mg base "make_lot" 4 ["low", "high", "inside", "modulus", "ups", "downs"] (spMakeT K)) : Keeps CX0 P w K mg base "_law_refused" 5 ["_law_parts_here"] spRef := by
  refine keeps_of F sc_ref (fun _ _ _ _ _ _ us hl => match us, hl with | [_], _ => rfl) (fun vs H Q E h => ?_) (fun f cdv A outer s H vs Q E hr h => ?_)
  · obtain ⟨p, t, xl, xh, xi, xm, xu, xd, dlo, dhi, di, dm, du, dd, rfl, _⟩ := h
    rfl
  · obtain ⟨p, t, xl, xh, xi, xm, xu, xd, dlo, dhi, di, dm, du, dd, rfl, ht, tl, th, ti, tm, tu, td, ln, k⟩ := h
    have k := k K
    obtain ⟨fm, Fm, bm, kpm, mm⟩ := Gm
    have T0 := S.a.xt
    refine ⟨_, (pss_cons (ps_try_as (i := 1) (tb := fun W => tDrop (tCallS (spMakeT K) (WE W) (tSixL K))) (ts := fun a cls d => tRefS K a cls d) (Wout := fun _ _ _ _ => False) rfl rfl sc_ref.nd rfl rfl ⟨(by rfl), by decide, .inl T0.g⟩ takes0
      (fun W pn xe tk _ => pss_one (ps_expr (pe_callS Fm hr (by rfl) mm kpm bm (fun σ => passAt tk σ) (pa_cons (pe_ix (r := rIxL K) ix_list (pv 0) pe_int (fun _ _ => rfl)) (pa_cons (pe_ix (r := rIxL K) ix_list (pv 0) pe_int (fun _ _ => rfl)) (pa_cons (pe_ix (r := rIxL K) ix_list (pv 0) pe_int (fun _ _ => rfl)) (pa_cons (pe_ix (r := rIxL K) ix_list (pv 0) pe_int (fun _ _ => rfl)) (pa_cons (pe_ix (r := rIxL K) ix_list (pv 0) pe_int (fun _ _ => rfl)) (pa_cons (pe_ix (r := rIxL K) ix_list (pv 0) pe_int (fun _ _ => rfl)) pa_nil)))))))))
      (fun a oe cls d pn hz hf => pss_cons (ps_if (PW.pt (pw_or (pt_not (pt_val (pe_callB (call_isEd T0 I.hn I.ht hz hf) (by rfl) N.isinstance boot_isinstance (pa_cons (pv 1) (pa_cons (pe_glob (v := .ref (He.ga K "BookError")) (by rfl) I.gb rfl) pa_nil))))) (pw_or (pt_not (pt_val (pe_callB (call_isEd T0 I.hn I.ht hz hf) (by rfl) N.isinstance boot_isinstance (pa_cons (pv 1) (pa_cons (pe_bltn (v := .ty "ValueError") (by rfl) N.verr (by decide +kernel) rfl) pa_nil))))) (pw_or1 (pt_val (pe_callB (call_isEd T0 I.hn I.ht hz hf) (by rfl) N.isinstance boot_isinstance (pa_cons (pv 1) (pa_cons (pe_glob (v := .ref (He.ga K "BadText")) (by rfl) gT rfl) pa_nil)))))))) (pss_one (ps_ret (pe_tup (pa_cons pe_str pa_nil)))) pss_nil)
        (pss_one (ps_ret (pe_tup (pa_cons pe_str (pa_cons (pe_xf S.xf (T0.no _ (by decide)) hz hf (pv 1)) pa_nil)))))))
        (pss_one (ps_ret (pe_tup (pa_cons pe_str pa_nil))))), ?_⟩
    refine ⟨_, rfl, t, _, _, _, rfl, rfl, SqL.of ht, rfl, _, rfl, t, _, _, _, rfl, rfl, SqL.of ht, rfl, _, rfl, t, _, _, _, rfl, rfl, SqL.of ht, rfl, _, rfl, t, _, _, _, rfl, rfl, SqL.of ht, rfl, _, rfl, t, _, _, _, rfl, rfl, SqL.of ht, rfl, _, rfl, t, _, _, _, rfl, rfl, SqL.of ht, rfl, ?_⟩
    refine ⟨p, xl, xh, xi, xm, xu, xd, dlo, dhi, di, dm, du, dd, rfl, tl, th, ti, tm, tu, td, ln, k.mono (fun z hb ad H1 s1 ed => ?_) (fun lo hi m hg H1 s1 => ?_)⟩
    · refine ⟨true, S.xm, fun _ e he => ?_, fun z => nomatch z⟩
      have ha : ∃ dd fs, (some ad : Option Addr) = some dd ∧ H1 dd = some (.xd fs) := ⟨ad, _, rfl, ed⟩
      refine ⟨_, rfl, .ref (He.ga K "BookError"), .ref (He.ga K "BookError"), true, rfl, rfl, fun u r => r, T0.kB, ha, _, rfl, iteF ?_⟩
      refine ⟨_, rfl, .ty "ValueError", .type "ValueError", true, rfl, rfl, fun u r => r, T0.kV, ha, _, rfl, iteF ?_⟩
      refine ⟨_, rfl, .ref (He.ga K "BadText"), .ref (He.ga K "BadText"), false, rfl, rfl, fun u r => r, no, ha, _, rfl, iteF ?_⟩
      refine ⟨_, rfl, rfl, rfl, ad, _, .str z, rfl, ed, rfl, (by show 2 ≤ sizeLine; decide), fun q hq => ?_⟩
      exact hb q _ (same_new s1 hq) upd_same
    · obtain ⟨⟨T, fl, fh, fmm, g⟩, kg⟩ := hg
      refine (g.same s1).sp fun p' H2 s2 _ => ?_
      exact ⟨(by show 1 ≤ sizeLine; decide), fun q hq => kg q _ (same_new (s1.trans s2) hq) upd_same⟩
end
end My
set_option Elab.async false
set_option linter.all false
set_option maxRecDepth 100000
set_option maxHeartbeats 8000000
namespace My
open PySem PySem.Spec PyProof.Rows L2
local macro_rules | `(tactic| walk_at "lv") => `(tactic| first | exact Or.inl rfl | exact Or.inr rfl)
theorem exmAny1 {K : PySem.W.Frag} {cls c : Value} {b : Bool} (h : PySem.W.exmOne K cls c = some b) : PySem.W.exmAny K cls [c] = some b := by
  show (match PySem.W.exmOne K cls c, PySem.W.exmAny K cls [] with | some b, some d => some (b || d) | _, _ => none) = some b
  rw [h]
  show some (b || false) = some b
  rw [Bool.or_false]
theorem exmAny2 {K : PySem.W.Frag} {cls c c' : Value} {b b' : Bool} (h : PySem.W.exmOne K cls c = some b) (h' : PySem.W.exmOne K cls c' = some b') : PySem.W.exmAny K cls [c, c'] = some (b || b') := by
  show (match PySem.W.exmOne K cls c, PySem.W.exmAny K cls [c'] with | some b, some d => some (b || d) | _, _ => none) = some (b || b')
  rw [h, exmAny1 h']
section
variable {P : Program} {w : World} {K : PySem.W.Frag} {mg : Str → Option Value} {base : Heap}
/-! ### _law_read -/
def TextEnd (H : Hp) (Q : VK) : Prop := ∀ q H', Same H H' → H' q = some (.tup [.str "text", .int 1, .str "line"]) → Q (.ref q) H'
def LotEnds (H : Hp) (Q : VK) (z : Str) : Prop := ∀ q H', Same H H' → H' q = some (.tup [.str "lot", .str z]) → Q (.ref q) H'
def ReadEnd (K : PySem.W.Frag) (H : Hp) (Q : VK) : Option Desc → Prop
  | none => TextEnd H Q
  | some (lo, hi, ins, m, us, ds) => (ins.length ≤ 900 ∧ us.length ≤ 900 ∧ ds.length ≤ 900) ∧ ∀ a b c H', Same H H' → H' a = some (.lst (ins.map V.int)) → H' b = some (.lst (us.map V.int)) → H' c = some (.lst (ds.map V.int)) →
      MakeEnd K (LotEnds H Q) (fun x y z => ∃ T fl fh fm, LotGood H' [.int x, .int y, .ref a, .int z, .ref b, .ref c] T fl fh fm ∧
        ∀ p q H2, Same H' H2 → LotAt (He.ga K "Lot") H2 p fl fh (insOf T fl fh) fm (resOf T.U fm) (resOf T.D fm) → H2 q = some (.tup [.str "read", .ref p]) → Q (.ref q) H2) (.int lo) (.int hi) (intsD ins) (.int m) (intsD us) (intsD ds)
theorem OutA.bad {K : PySem.W.Frag} {E : XK} {H : Hp} {x : Str} {fs : List (Str × V)} (h : ∀ d H', Same H H' → H' d = some (.xd fs) → E (.ref (He.ga K x)) (some d) H') : OutA K E H x fs := h
def spLrd (K : PySem.W.Frag) : Sp := fun vs H Q _ => ∃ (p : Addr) (zs : List V) (v : V) (d : PyData) (o : Option (List (List Nat))), vs = [v] ∧ H p = some (.lst zs) ∧ Tg p H v d ∧ TextIs d o ∧ (∀ ws, o = some ws → ws.length ≤ 60000 ∧ OkWs ws) ∧ ReadEnd K H Q (descO o)
abbrev s_lrd : Stmt := top 70
abbrev N_lrd : List Str := ["_law_text", "_law_lot", "e"]
theorem sc_lrd : FnScope N_lrd ["_law_text"] (defScope s_lrd) := ⟨rfl, rfl, rfl, by decide +kernel, rfl, by decide +kernel, by decide +kernel⟩
def tTxtS (K : PySem.W.Frag) (i : Nat) (a : Addr) (cls : Value) (d : Option Addr) : TS := tRet (tTup (tCons (tC (.str "text")) (tCons (tXf a cls d (He.ga K "BadText") "line" (tVar i)) (tCons (tXf a cls d (He.ga K "BadText") "what" (tVar i)) tNil))))
def tLotS (K : PySem.W.Frag) (i : Nat) (a : Addr) (cls : Value) (d : Option Addr) : TS := tRet (tTup (tCons (tC (.str "lot")) (tCons (tXf a cls d (He.ga K "BadLot") "what" (tVar i)) tNil)))
theorem kp_lrd (F : At K mg "_law_read" s_lrd) (S : ErrF P w K mg base "BadLot" ["what"]) (S2 : ErrF P w K mg base "BadText" ["line", "what"]) (no : PySem.W.exmOne K (.ref (He.ga K "BadLot")) (.ref (He.ga K "BadText")) = some false)
    (G : Keeps (CX P w) P w K mg base "read_lot" 5 ["text"] (spRdLot K)) : Keeps CX0 P w K mg base "_law_read" 6 ["_law_text"] (spLrd K) := by
  refine keeps_of F sc_lrd (fun _ _ _ _ _ _ us hl => match us, hl with | [_], _ => rfl) (fun vs H Q E h => ?_) (fun f cdv A outer s H vs Q E hr h => ?_)
  · obtain ⟨p, zs, v, d, o, rfl, _⟩ := h
    rfl
  · obtain ⟨p, zs, v, d, o, rfl, hp, tv, tx, wo, k⟩ := h
    obtain ⟨fr, Fr, br, kpr, mr⟩ := G
    have T1 := S.a.xt
    have T2 := S2.a.xt
    refine ⟨_, (pss_cons (ps_try_cls (i := 2) (l := [([.ref (He.ga K "BadText")], fun a cls d => tTxtS K 2 a cls d), ([.ref (He.ga K "BadLot")], fun a cls d => tLotS K 2 a cls d)]) (tb := fun W => tAsg (tCallS (spRdLot K) (WE W) (tCons (tVar 0) tNil)) (gName 1)) (Wout := fun _ _ _ _ => False) rfl rfl sc_lrd.nd rfl rfl takes0
      (fun W pn xe tk _ => pss_one (ps_set (i := 1) sc_lrd.nd rfl (by walk_at "lv") (pe_callS Fr hr (by rfl) mr kpr br (fun σ => passAt tk σ) (pa_cons (pv 0) pa_nil))))
      (ClsOk.cons (test1 ⟨(by rfl), by decide, .inl T2.g⟩) (fun a oe cls d pn hz hf => pss_one (ps_ret (pe_tup (pa_cons pe_str (pa_cons (pe_xf S2.xf (T2.no _ (by decide)) hz hf (pv 2)) (pa_cons (pe_xf S2.xf (T2.no _ (by decide)) hz hf (pv 2)) pa_nil))))))
        (ClsOk.cons (test1 ⟨(by rfl), by decide, .inl T1.g⟩) (fun a oe cls d pn hz hf => pss_one (ps_ret (pe_tup (pa_cons pe_str (pa_cons (pe_xf S.xf (T1.no _ (by decide)) hz hf (pv 2)) pa_nil))))) .nil)))
        (pss_one (ps_ret (pe_tup (pa_cons pe_str (pa_cons (pv 1) pa_nil)))))), ?_⟩
    refine ⟨_, rfl, p, zs, v, d, o, rfl, hp, tv, tx, wo, ?_⟩
    revert k
    cases descO o with
    | none =>
      intro k dd H1 s1 ed
      refine ⟨true, exmAny1 S2.xm, fun _ e he => ?_, fun z => nomatch z⟩
      refine ⟨_, rfl, rfl, rfl, dd, _, .int 1, rfl, ed, rfl, _, rfl, rfl, rfl, dd, _, .str "line", rfl, ed, rfl, (by show 3 ≤ sizeLine; decide), fun q hq => ?_⟩
      exact k q _ (same_new s1 hq) upd_same
    | some q =>
      obtain ⟨lo, hi, ins, m, us, ds⟩ := q
      rintro ⟨ln, k⟩
      refine ⟨ln, fun a b c H1 s1 ea eb ec => (k a b c H1 s1 ea eb ec).mono (fun z hb => ?_) (fun x y z hg H2 s2 => ?_)⟩
      · intro dd H2 s2 ed
        refine ⟨false, exmAny1 no, (fun z => nomatch z), fun _ => ⟨true, exmAny1 S.xm, fun _ e he => ?_, fun z => nomatch z⟩⟩
        refine ⟨_, rfl, rfl, rfl, dd, _, .str z, rfl, ed, rfl, (by show 2 ≤ sizeLine; decide), fun q hq => ?_⟩
        exact hb q _ (same_new s2 hq) upd_same
      · obtain ⟨T, fl, fh, fm, g, kg⟩ := hg
        refine (g.same s2).sp fun p' H3 s3 la => ?_
        refine ⟨_, rfl, (by show 2 ≤ sizeLine; decide), fun q hq => ?_⟩
        have s4 := same_new (o := .tup [.str "read", .ref p']) (Same.refl H3) hq
        exact kg p' q _ ((s2.trans s3).trans s4) (la.same s4) upd_same
end
end My
set_option Elab.async false
set_option linter.all false
set_option maxRecDepth 100000
set_option maxHeartbeats 8000000
namespace My
open PySem PySem.Spec PyProof.Rows L2
local macro_rules | `(tactic| walk_at "lv") => `(tactic| first | exact Or.inl rfl | exact Or.inr rfl)
theorem call_or {X : L2.Cx} {f : Value} {r r' : List V → Hp → VK → Prop} (h : CallR X f r) (h' : CallR X f r') : CallR X f (fun xs H Q => r xs H Q ∨ r' xs H Q) := by
  intro pns s σ H xs us Q I rx q
  rcases q with q | q
  · exact h pns s σ H xs us Q I rx q
  · exact h' pns s σ H xs us Q I rx q
section
variable {P : Program} {w : World} {K : PySem.W.Frag} {mg : Str → Option Value} {base : Heap}
/-! ### _law_read_small -/
def fsOf (lt : Bool) : Forms := if lt then fsL else fsT
def fitOf (lt : Bool) : PyData → Bool := if lt then flT else ftT
def SmallEnd (H : Hp) (Q : VK) (lt : Bool) : Option (List Nat × List Int) → Prop
  | none => TextEnd H Q
  | some (u, ns) => (fitOf lt (smallD u ns) = false → ∀ q H', Same H H' → H' q = some (.tup [.str "beyond", .bl lt]) → Q (.ref q) H') ∧
      (fitOf lt (smallD u ns) = true → ∀ t q H', Same H H' → H' t = some (.tup (smallV u ns)) → H' q = some (.tup [.str "read", .ref t]) → Q (.ref q) H')
def spSml (K : PySem.W.Frag) : Sp := fun vs H Q _ => ∃ (p : Addr) (zs : List V) (v : V) (lt : Bool) (d : PyData) (o : Option (List (List Nat))) (os : List (Option Int)), vs = [v, .bl lt] ∧ H p = some (.lst zs) ∧ Tg p H v d ∧ TextIs d o ∧ WordsOk o os ∧ SmallEnd H Q lt (itemD o (fsOf lt) os)
abbrev s_sml : Stmt := top 71
abbrev N_sml : List Str := ["_law_text", "_law_is_letter", "_law_thing", "e"]
theorem sc_sml : FnScope N_sml ["_law_text", "_law_is_letter"] (defScope s_sml) := ⟨rfl, rfl, rfl, by decide +kernel, rfl, by decide +kernel, by decide +kernel⟩
def rIsLT (K : PySem.W.Frag) (a : Addr) (cls : Value) (d : Option Addr) : List V → Hp → VK → Prop := fun xs H Q => rIsE0 K (He.ga K "BadLetter") a cls d xs H Q ∨ rIsE0 K (He.ga K "BadTest") a cls d xs H Q
def tBeyS (K : PySem.W.Frag) (i : Nat) (a : Addr) (cls : Value) (d : Option Addr) : TS := tRet (tTup (tCons (tC (.str "beyond")) (tCons (tCB (rIsLT K a cls d) (tCons (tVar i) (tCons (tC (.ref (He.ga K "BadLetter"))) tNil))) tNil)))
/-- how the errors of small lines stand to one another -/
structure Smalls (K : PySem.W.Frag) (mg : Str → Option Value) : Prop where
  l : Err1 K mg "BadLetter"
  t : Err1 K mg "BadTest"
  lx : PySem.W.exmOne K (.ref (He.ga K "BadLetter")) (.ref (He.ga K "BadText")) = some false
  tx : PySem.W.exmOne K (.ref (He.ga K "BadTest")) (.ref (He.ga K "BadText")) = some false
  lt : PySem.W.exmOne K (.ref (He.ga K "BadLetter")) (.ref (He.ga K "BadTest")) = some false
  tl : PySem.W.exmOne K (.ref (He.ga K "BadTest")) (.ref (He.ga K "BadLetter")) = some false
  kl : PySem.W.kitOne K (.ref (He.ga K "BadLetter")) (.ref (He.ga K "BadLetter")) = some true
  kt : PySem.W.kitOne K (.ref (He.ga K "BadTest")) (.ref (He.ga K "BadLetter")) = some false
theorem kp_sml (F : At K mg "_law_read_small" s_sml) (N : Nb mg) (S2 : ErrF P w K mg base "BadText" ["line", "what"]) (M : Smalls K mg)
    (Gl : Keeps (CX P w) P w K mg base "read_letter" 5 ["text"] (spRd K fsL flT "BadLetter")) (Gt : Keeps (CX P w) P w K mg base "read_test" 5 ["text"] (spRd K fsT ftT "BadTest")) : Keeps CX0 P w K mg base "_law_read_small" 6 ["_law_text", "_law_is_letter"] (spSml K) := by
  refine keeps_of F sc_sml (fun _ _ _ _ _ _ us hl => match us, hl with | [_, _], _ => rfl) (fun vs H Q E h => ?_) (fun f cdv A outer s H vs Q E hr h => ?_)
  · obtain ⟨p, zs, v, lt, d, o, os, rfl, _⟩ := h
    rfl
  · obtain ⟨p, zs, v, lt, d, o, os, rfl, hp, tv, tx, wo, k⟩ := h
    obtain ⟨fl, Fl, bl, kpl, ml⟩ := Gl
    obtain ⟨ft, Ft, bt, kpt, mt⟩ := Gt
    have T2 := S2.a.xt
    refine ⟨_, (pss_cons (ps_try_cls (i := 3) (l := [([.ref (He.ga K "BadText")], fun a cls d => tTxtS K 3 a cls d), ([.ref (He.ga K "BadLetter"), .ref (He.ga K "BadTest")], fun a cls d => tBeyS K 3 a cls d)]) (tb := fun W => tAsg (tIf (tB (tVar 1)) (tCallS (spRd K fsL flT "BadLetter") (WE W) (tCons (tVar 0) tNil)) (tCallS (spRd K fsT ftT "BadTest") (WE W) (tCons (tVar 0) tNil))) (gName 2)) (Wout := fun _ _ _ _ => False) rfl rfl sc_sml.nd rfl rfl takes0
      (fun W pn xe tk _ => pss_one (ps_set (i := 2) sc_sml.nd rfl (by walk_at "lv") (pe_ifExp (pt_val (pv 1)) (pe_callS Fl hr (by rfl) ml kpl bl (fun σ => passAt tk σ) (pa_cons (pv 0) pa_nil)) (pe_callS Ft hr (by rfl) mt kpt bt (fun σ => passAt tk σ) (pa_cons (pv 0) pa_nil)))))
      (ClsOk.cons (test1 ⟨(by rfl), by decide, .inl T2.g⟩) (fun a oe cls d pn hz hf => pss_one (ps_ret (pe_tup (pa_cons pe_str (pa_cons (pe_xf S2.xf (T2.no _ (by decide)) hz hf (pv 3)) (pa_cons (pe_xf S2.xf (T2.no _ (by decide)) hz hf (pv 3)) pa_nil))))))
        (ClsOk.cons (test2 ⟨(by rfl), by decide, .inl M.l.f.g⟩ ⟨(by rfl), by decide, .inl M.t.f.g⟩) (fun a oe cls d pn hz hf => pss_one (ps_ret (pe_tup (pa_cons pe_str (pa_cons (pe_callB (call_or (call_isE0 M.l.c hz hf) (call_isE0 M.t.c hz hf)) (by rfl) N.isinstance boot_isinstance (pa_cons (pv 3) (pa_cons (pe_glob (v := .ref (He.ga K "BadLetter")) (by rfl) M.l.f.g rfl) pa_nil))) pa_nil))))) .nil)))
        (pss_one (ps_ret (pe_tup (pa_cons pe_str (pa_cons (pv 2) pa_nil)))))), ?_⟩
    refine ⟨_, rfl, _, rfl, ?_⟩
    cases lt with
    | true =>
      refine iteT ⟨_, rfl, p, zs, v, d, o, os, rfl, hp, tv, tx, wo, ?_⟩
      have k : SmallEnd H Q true (itemD o fsL os) := k
      revert k
      cases itemD o fsL os with
      | none =>
        intro k dd H1 s1 ed
        refine ⟨true, exmAny1 S2.xm, fun _ e he => ?_, fun z => nomatch z⟩
        refine ⟨_, rfl, rfl, rfl, dd, _, .int 1, rfl, ed, rfl, _, rfl, rfl, rfl, dd, _, .str "line", rfl, ed, rfl, (by show 3 ≤ sizeLine; decide), fun q hq => ?_⟩
        exact k q _ (same_new s1 hq) upd_same
      | some un =>
        obtain ⟨u, ns⟩ := un
        rintro ⟨kf, kt⟩
        refine ⟨fun h H1 s1 => ?_, fun h t H1 s1 et => ?_⟩
        · refine ⟨false, exmAny1 M.lx, (fun z => nomatch z), fun _ => ⟨true, exmAny2 M.l.xm M.lt, fun _ e he => ?_, fun z => nomatch z⟩⟩
          refine ⟨_, rfl, .inl ⟨rfl, rfl, .ref (He.ga K "BadLetter"), .ref (He.ga K "BadLetter"), true, rfl, fun u r => r, M.kl, (by show 2 ≤ sizeLine; decide), fun q hq => ?_⟩⟩
          exact kf h q _ (same_new s1 hq) upd_same
        · refine ⟨_, rfl, (by show 2 ≤ sizeLine; decide), fun q hq => ?_⟩
          have s2 := same_new (o := .tup [.str "read", .ref t]) (Same.refl H1) hq
          exact kt h t q _ (s1.trans s2) (s2 _ _ et) upd_same
    | false =>
      refine iteF ⟨_, rfl, p, zs, v, d, o, os, rfl, hp, tv, tx, wo, ?_⟩
      have k : SmallEnd H Q false (itemD o fsT os) := k
      revert k
      cases itemD o fsT os with
      | none =>
        intro k dd H1 s1 ed
        refine ⟨true, exmAny1 S2.xm, fun _ e he => ?_, fun z => nomatch z⟩
        refine ⟨_, rfl, rfl, rfl, dd, _, .int 1, rfl, ed, rfl, _, rfl, rfl, rfl, dd, _, .str "line", rfl, ed, rfl, (by show 3 ≤ sizeLine; decide), fun q hq => ?_⟩
        exact k q _ (same_new s1 hq) upd_same
      | some un =>
        obtain ⟨u, ns⟩ := un
        rintro ⟨kf, kt⟩
        refine ⟨fun h H1 s1 => ?_, fun h t H1 s1 et => ?_⟩
        · refine ⟨false, exmAny1 M.tx, (fun z => nomatch z), fun _ => ⟨true, exmAny2 M.tl M.t.xm, fun _ e he => ?_, fun z => nomatch z⟩⟩
          refine ⟨_, rfl, .inr ⟨rfl, rfl, .ref (He.ga K "BadLetter"), .ref (He.ga K "BadLetter"), false, rfl, fun u r => r, M.kt, (by show 2 ≤ sizeLine; decide), fun q hq => ?_⟩⟩
          exact kf h q _ (same_new s1 hq) upd_same
        · refine ⟨_, rfl, (by show 2 ≤ sizeLine; decide), fun q hq => ?_⟩
          have s2 := same_new (o := .tup [.str "read", .ref t]) (Same.refl H1) hq
          exact kt h t q _ (s1.trans s2) (s2 _ _ et) upd_same
end
end My
set_option Elab.async false
set_option linter.all false
set_option maxRecDepth 100000
set_option maxHeartbeats 8000000
namespace My
open PySem PySem.Spec PyProof.Rows L2
local macro_rules | `(tactic| walk_at "lv") => `(tactic| first | exact Or.inl rfl | exact Or.inr rfl)
section
variable {P : Program} {w : World} {K : PySem.W.Frag} {mg : Str → Option Value} {base : Heap}
/-! ### _law_spoilt -/
theorem HandC.nd {H : Hp} {p c : Addr} (h : HandC H p c) : ∀ kvs, H p ≠ some (.dK kvs) := fun kvs e => by
  obtain ⟨_, _, _, _, e2, _⟩ := h
  rw [e2] at e
  cases e
/-- what spoils a row of numbers -/
def Spoils (lo hi : Int) (ns : List Int) (d : PyData) : Prop := Small 3 d ∧ (wDd lo hi d = false ∨ ∃ n ∈ ns, d = .int n)
def intsL (ns : List Int) : List PyData := ns.map PyData.int
theorem small_int (n : Int) : Small 60 (.int n) := ⟨by kernel_rfl, Nat.le_of_ble_eq_true (by kernel_rfl)⟩
theorem unl_spoilt {lo hi : Int} {ns : List Int} {d0 d : PyData} {i : Nat} (h : Spoils lo hi ns d0) (e : SqData d ((intsL ns).take i ++ [d0] ++ (intsL ns).drop i)) : unlD lo hi d = false := by
  have er : rowsOf d = some ((intsL ns).take i ++ [d0] ++ (intsL ns).drop i) := by rcases e with rfl | rfl <;> rfl
  unfold unlD
  rw [er]
  show (_ && _) = false
  rcases h.2 with h | ⟨n, hn, rfl⟩
  · rw [show (((intsL ns).take i ++ [d0] ++ (intsL ns).drop i).all (wDd lo hi)) = false from by
      rw [List.all_append, List.all_append, List.all_cons, h]
      simp, Bool.false_and]
  · rw [Bool.and_eq_false_iff]
    refine .inr (decide_eq_false fun nd => ?_)
    have e1 : ((intsL ns).take i).map intD = ns.take i := by
      unfold intsL
      rw [← List.map_take, List.map_map]
      exact List.map_id' (l := ns.take i)
    have e2 : ((intsL ns).drop i).map intD = ns.drop i := by
      unfold intsL
      rw [← List.map_drop, List.map_map]
      exact List.map_id' (l := ns.drop i)
    rw [List.map_append, List.map_append, e1, e2] at nd
    have nd : (ns.take i ++ [n] ++ ns.drop i).Nodup := nd
    rw [← List.take_append_drop i ns] at hn
    rcases List.mem_append.mp hn with q | q
    · have := (List.nodup_append.mp (List.nodup_append.mp nd).1).2.2 n q n List.mem_cons_self
      exact this rfl
    · have := (List.nodup_append.mp nd).2.2 n (List.mem_append_right _ List.mem_cons_self) n q
      exact this rfl
theorem HandC.old {H H' : Hp} {p c g : Addr} {o : HO} (h : HandC H' p c) (b : But p H H') (e : H g = some o) : ∃ o', H' g = some o' := by
  by_cases q : g = p
  · obtain ⟨_, _, _, _, e2, _⟩ := h
    exact ⟨_, by rw [q]; exact e2⟩
  · exact ⟨_, b _ _ q e⟩
def spSp : Sp := fun vs H Q _ => ∃ (p c a : Addr) (ns : List Int) (lo hi : Int), vs = [.ref p, .ref a, .int lo, .int hi] ∧ HandC H p c ∧ H a = some (.lst (ns.map V.int)) ∧ a ≠ p ∧ ns.length ≤ 100 ∧ ∀ x d H', HandC H' p c → But p H H' → RowX p H' x d → (∀ g o, H g = some o → RowX g H' x d) → Len900 d → unlD lo hi d = false → Q x H'
theorem tgAll_mid {p : Addr} {H : Hp} {ns : List Int} {i : Nat} {x : V} {d : PyData} (t : Tg p H x d) : TgAll p H ((ns.map V.int).take i ++ [x] ++ (ns.map V.int).drop i) ((intsL ns).take i ++ [d] ++ (intsL ns).drop i) :=
  TgAll.app (TgAll.app (TgAll.take i (tgAll_ints ns)) (.cons t .nil)) (TgAll.drop i (tgAll_ints ns))
abbrev s_spo : Stmt := top 72
abbrev N_spo : List Str := ["_law_hand_here", "_law_row", "_law_low", "_law_high", "_law_way", "_law_bad", "_law_new"]
theorem sc_spo : FnScope N_spo ["_law_hand_here", "_law_row", "_law_low", "_law_high"] (defScope s_spo) := ⟨rfl, rfl, rfl, by decide +kernel, rfl, by decide +kernel, by decide +kernel⟩
theorem kp_spo (F : At K mg "_law_spoilt" s_spo) (N : Nb mg) (G : Keeps CX0 P w K mg base "_law_draw" 2 ["_law_hand_here", "_law_many"] spDraw) (Go : Keeps CX0 P w K mg base "_law_number_odd" 3 ["_law_hand_here"] spNo) (Ga : Keeps CX0 P w K mg base "_law_as" 3 ["_law_hand_here", "_law_rows"] spAs) :
    Keeps CX0 P w K mg base "_law_spoilt" 4 ["_law_hand_here", "_law_row", "_law_low", "_law_high"] spSp := by
  refine keeps_of F sc_spo (fun _ _ _ _ _ _ us hl => match us, hl with | [_, _, _, _], _ => rfl) (fun vs H Q E h => ?_) (fun f cdv A outer s H vs Q E hr h => ?_)
  · obtain ⟨p, c, a, ns, lo, hi, rfl, _⟩ := h
    rfl
  · obtain ⟨p, c, a, ns, lo, hi, rfl, hh, ha, ap, l9, k⟩ := h
    have h2 : Room 2 (A.deeper (envOfC "_law_spoilt" (defScope s_spo) s.heap.objs.size f cdv)) := hr.mono (by decide)
    refine ⟨_, (pss_cons (ps_set (i := 4) sc_spo.nd rfl (by walk_at "lv") (pe_k G h2 (by rfl) pass0 (pa_cons (pv 0) (pa_cons pe_int pa_nil))))
        (pss_cons (ps_if (pt_cmpR op_eq (pv 4) pe_int (nomark _)) (pss_one (ps_ret (pe_ix ix_tup (pe_tup (pa_cons pe_str (pa_cons pe_non (pa_cons pe_int (pa_cons (pe_disp (pps_cons pe_int pe_int pps_nil) rfl rfl (fun z => nomatch z) (by decide)) pa_nil))))) (pe_k G h2 (by rfl) pass0 (pa_cons (pv 0) (pa_cons pe_int pa_nil))) (fun _ _ => rfl)))) pss_nil)
        (C8.pss_cut (ps_set (i := 5) sc_spo.nd rfl (by walk_at "lv") (pe_ix ix_tup (pe_tup (pa_cons (pe_op op_sub (pv 2) pe_int) (pa_cons (pe_op op_add (pv 3) pe_int) (pa_cons (pe_op op_sub (pv 2) pe_int) (pa_cons (pe_op op_add (pv 3) pe_int) pa_nil))))) (pe_k G h2 (by rfl) pass0 (pa_cons (pv 0) (pa_cons pe_int pa_nil))) (fun _ _ => rfl)))
        (C8.pss_cut (ps_if (PW.pt (pw_and (pt_cmpR op_eq (pv 4) pe_int (nomark _)) (pw_and1 (pt_truth (pv 1) (fun _ => rfl))))) (pss_one (ps_set (i := 5) sc_spo.nd rfl (by walk_at "lv") (pe_ix ix_list (pv 1) (pe_k G h2 (by rfl) pass0 (pa_cons (pv 0) (pa_cons (pe_callB call_len_seq (by rfl) N.len (by decide +kernel) (pa_cons (pv 1) pa_nil)) pa_nil))) (fun _ _ => rfl)))) pss_nil)
        (C8.pss_cut (ps_if (pt_cmpR op_eq (pv 4) pe_int (nomark _)) (pss_one (ps_set (i := 5) sc_spo.nd rfl (by walk_at "lv") (pe_k Go hr (by rfl) pass0 (pa_cons (pv 0) pa_nil)))) pss_nil)
        (pss_cons (ps_set (i := 6) sc_spo.nd rfl (by walk_at "lv") (pe_callTy call_list_of (by rfl) N.list (by decide +kernel) (pa_cons (pv 1) pa_nil)))
        (pss_cons (ps_expr (pe_bm PySem.F.plainAttrs_list PySem.F.slot_list_insert PySem.F.type_list_insert mt_insert (pv 6) (pa_cons (pe_k G h2 (by rfl) pass0 (pa_cons (pv 0) (pa_cons (pe_op op_add (pe_callB call_len_seq (by rfl) N.len (by decide +kernel) (pa_cons (pv 6) pa_nil)) pe_int) pa_nil))) (pa_cons (pv 5) pa_nil))))
        (pss_one (ps_ret (pe_k Ga hr (by rfl) pass0 (pa_cons (pv 0) (pa_cons (pv 6) pa_nil)))))))))))), ?_⟩
    refine ⟨_, rfl, p, c, 5, rfl, hh, ⟨by decide, by decide⟩, fun way H1 w0 w1 h1 b1 => ⟨_, rfl, rfl, _, rfl, ite2 (fun _ => ?_) (fun _ => ?_)⟩⟩
    · intro dd nd
      refine ⟨upd_same, [(.inl 0, .int 1)], rfl, by decide, (by show 4 ≤ sizeLine; decide), fun t nt => ?_⟩
      have s1 : Same H1 _ := same_at (o := .dK (mergeK [] [(.inl 0, .int 1)])) (same_new (o := .dK []) (Same.refl H1) nd) nd
      have s12 := same_new (o := .tup [.str "0", .non, .int 3, .ref dd]) (Same.refl _) nt
      have s2 := s1.trans s12
      refine ⟨_, rfl, p, c, 4, rfl, h1.same s2, ⟨by decide, by decide⟩, fun r H2 r0 r1 h2 b2 => ?_⟩
      have dp := h1.off nd
      have tp := (h1.same s1).off nt
      have b := b1.trans ((But.of s2).trans b2)
      have ed : H2 dd = some (.dK (mergeK [] [(.inl 0, .int 1)])) := b2 _ _ dp (s12 _ _ upd_same)
      obtain ⟨v, e1, e2⟩ := atI_of (xs := [V.str "0", .non, .int 3, .ref dd]) r0 r1
      refine ⟨t, _, _, _, rfl, rfl, SqT.of (b2 _ _ tp upd_same), e2, ?_⟩
      have i4 : r.toNat < 4 := by omega
      revert e1
      generalize r.toNat = i at i4
      match i, i4 with
      | 0, _ => intro e; cases e; exact k _ _ _ h2 b (.inl (.str "0" (by kernel_rfl))) (fun _ _ _ => .inl (.str "0" (by kernel_rfl))) (fun ds e => by cases e) rfl
      | 1, _ => intro e; cases e; exact k _ _ _ h2 b (.inl .non) (fun _ _ _ => .inl .non) (fun ds e => by cases e) rfl
      | 2, _ => intro e; cases e; exact k _ _ _ h2 b (.inl (.int 3)) (fun _ _ _ => .inl (.int 3)) (fun ds e => by cases e) rfl
      | 3, _ => intro e; cases e; exact k _ _ _ h2 b (.inr ⟨dd, _, rfl, ed, rfl⟩) (fun _ _ _ => .inr ⟨dd, _, rfl, ed, rfl⟩) (fun ds e => by cases e) rfl
    have ha1 := b1 _ _ ap ha
    let I : L2.St → Hp → Prop := fun σ H' => ∃ x d, σ = [some (.ref p), some (.ref a), some (.int lo), some (.int hi), some (.int way), some x, none] ∧ HandC H' p c ∧ But p H H' ∧ (Tg p H' x d ∧ ∀ g o, H g = some o → Tg g H' x d) ∧ Spoils lo hi ns d
    have sm : ∀ n : Int, Small 3 (.int n) := fun n => ⟨by kernel_rfl, Nat.le_of_ble_eq_true (by kernel_rfl)⟩
    refine ⟨I, ?_, ?_⟩
    · refine ⟨_, rfl, _, _, rfl, rfl, _, rfl, _, _, rfl, rfl, _, rfl, _, _, rfl, rfl, _, rfl, _, _, rfl, rfl, (by show 4 ≤ sizeLine; decide), fun t nt => ?_⟩
      have s1 := same_new (o := .tup [.int (lo - 1), .int (hi + 1), .int (lo - 1), .int (hi + 1)]) (Same.refl H1) nt
      refine ⟨_, rfl, p, c, 4, rfl, h1.same s1, ⟨by decide, by decide⟩, fun r H2 r0 r1 h2 b2 => ?_⟩
      obtain ⟨v, e1, e2⟩ := atI_of (xs := [V.int (lo - 1), .int (hi + 1), .int (lo - 1), .int (hi + 1)]) r0 r1
      refine ⟨t, _, _, _, rfl, rfl, SqT.of (b2 _ _ (h1.off nt) upd_same), e2, ?_⟩
      have i4 : r.toNat < 4 := by omega
      have b := b1.trans ((But.of s1).trans b2)
      have lw : Spoils lo hi ns (.int (lo - 1)) := ⟨sm _, .inl (wDd_no (by omega))⟩
      have hg : Spoils lo hi ns (.int (hi + 1)) := ⟨sm _, .inl (wDd_no (by omega))⟩
      revert e1
      generalize r.toNat = i at i4
      match i, i4 with
      | 0, _ => intro e; cases e; exact ⟨_, _, rfl, h2, b, ⟨.int _, fun _ _ _ => .int _⟩, lw⟩
      | 1, _ => intro e; cases e; exact ⟨_, _, rfl, h2, b, ⟨.int _, fun _ _ _ => .int _⟩, hg⟩
      | 2, _ => intro e; cases e; exact ⟨_, _, rfl, h2, b, ⟨.int _, fun _ _ _ => .int _⟩, lw⟩
      | 3, _ => intro e; cases e; exact ⟨_, _, rfl, h2, b, ⟨.int _, fun _ _ _ => .int _⟩, hg⟩
    rintro _ H2 ⟨x, d, rfl, h2', b2, tx, sp⟩
    refine ⟨I, ?_, ?_⟩
    · refine ⟨_, rfl, rfl, _, rfl, ite2 (fun _ => ?_) (fun _ => iteF ⟨x, d, rfl, h2', b2, tx, sp⟩)⟩
      have ha2 := b2 _ _ ap ha
      refine ⟨_, rfl, !(ns.map V.int).isEmpty, .inl ⟨_, SqL.of ha2, rfl⟩, ?_⟩
      cases en : ns with
      | nil => exact iteF ⟨x, d, rfl, h2', b2, tx, sp⟩
      | cons n0 rest =>
        rw [← en]
        refine (show (if (!(ns.map V.int).isEmpty) = true then _ else _) from ?_)
        rw [show (!(ns.map V.int).isEmpty) = true from by rw [en]; rfl]
        have lp : 0 < ns.length := by rw [en, List.length_cons]; omega
        refine iteT ⟨_, rfl, _, rfl, _, rfl, a, _, rfl, lenA (.inl ha2), p, c, _, rfl, h2', ⟨by rw [List.length_map]; omega, by rw [List.length_map]; exact log_small (by omega)⟩, fun r H3 r0 r1 h3 b3 => ?_⟩
        obtain ⟨v, e1, e2⟩ := atI_of (xs := ns.map V.int) r0 r1
        refine ⟨a, _, _, _, rfl, rfl, SqL.of (b3 _ _ ap ha2), e2, ?_⟩
        rw [List.getElem?_map] at e1
        obtain ⟨n, hn, rfl⟩ := Option.map_eq_some_iff.mp e1
        exact ⟨_, .int n, rfl, h3, b2.trans b3, ⟨.int n, fun _ _ _ => .int n⟩, sm n, .inr ⟨n, List.mem_of_getElem? hn, rfl⟩⟩
    rintro _ H3 ⟨x, d, rfl, h3, b3, tx, sp⟩
    refine ⟨I, ?_, ?_⟩
    · refine ⟨_, rfl, rfl, _, rfl, ite2 (fun _ => ?_) (fun _ => ⟨x, d, rfl, h3, b3, tx, sp⟩)⟩
      refine ⟨_, rfl, p, c, rfl, h3, fun x' d' H4 h4 b4 t4 n4 od sm => ⟨x', d', rfl, h4, b3.trans b4, ⟨t4, fun g o eg => ?_⟩, sm, .inl ?_⟩⟩
      · obtain ⟨o', e'⟩ := h3.old b3 eg
        exact n4 g o' e'
      · cases d' <;> first | rfl | exact Bool.noConfusion od
    rintro _ H4 ⟨x, d, rfl, h4, b4, ⟨tx, txn⟩, sp⟩
    have ha4 := b4 _ _ ap ha
    refine ⟨_, rfl, a, _, rfl, .inl (SqL.of ha4), fun l hl => ?_⟩
    have s5 := same_new (o := .lst (ns.map V.int)) (Same.refl H4) hl
    have lp := h4.off hl
    refine ⟨_, rfl, .inl ⟨rfl, _, SqL.of upd_same⟩, _, rfl, _, rfl, l, _, rfl, lenA (.inl upd_same), _, _, rfl, rfl, p, c, _, rfl, h4.same s5, ⟨by rw [List.length_map]; omega, ?_⟩, fun r H6 r0 r1 h6 b6 => ?_⟩
    · rw [List.length_map]
      exact log_small (n := ns.length + 1) (by omega)
    have el6 := b6 _ _ lp upd_same
    refine ⟨_, rfl, l, _, r, x, rfl, rfl, el6, by rw [List.length_map, sizeLine_eq]; omega, r0, by rw [List.length_map] at r1; omega, ?_⟩
    have b7' : But p H4 (upd H4 l (.lst (ns.map V.int))) := But.of s5
    have b7 : But p H4 (upd H6 l (.lst ((ns.map V.int).take r.toNat ++ [x] ++ (ns.map V.int).drop r.toNat))) := fun b o hb e => by
      rw [upd_ne (ne_of_none e hl)]
      exact b6 _ _ hb (s5 _ _ e)
    have hn := h4.ne hl
    have h7 := h6.upd hn.1 hn.2 (o := .lst ((ns.map V.int).take r.toNat ++ [x] ++ (ns.map V.int).drop r.toNat))
    refine ⟨_, rfl, _, rfl, p, c, l, _, (intsL ns).take r.toNat ++ [d] ++ (intsL ns).drop r.toNat, rfl, h7, upd_same, lp, tgAll_mid (Tg.but b7 _ _ tx), shp2_of fun e he => ?_, fun x' d' H8 h8 b8 t8 n8 sq => ?_⟩
    · rcases List.mem_append.mp he with q | q
      · rcases List.mem_append.mp q with q | q
        · obtain ⟨n, _, rfl⟩ := List.mem_map.mp (List.mem_of_mem_take q)
          exact small_int n
        · rw [List.mem_singleton.mp q]
          exact sp.1.mono (by decide)
      · obtain ⟨n, _, rfl⟩ := List.mem_map.mp (List.mem_of_mem_drop q)
        exact small_int n
    · refine k x' d' H8 h8 ((b4.trans b7).trans b8) (.inl t8) (fun g o eg => .inl ?_) (fun es e => ?_) (unl_spoilt sp sq)
      · obtain ⟨o4, e4⟩ := h4.old b4 eg
        have gl : g ≠ l := ne_of_none e4 hl
        obtain ⟨o6, e6⟩ := h6.old (b7'.trans b6) e4
        exact n8 g o6 (by rw [upd_ne gl]; exact e6) (tgAll_mid (Tg.two (fun b o nb _ e => b7 _ _ nb e) _ _ tx (txn g o eg)))
      have : rowsOf d' = some ((intsL ns).take r.toNat ++ [d] ++ (intsL ns).drop r.toNat) := by rcases sq with rfl | rfl <;> rfl
      rw [this] at e
      cases e
      have l1 : (intsL ns).length = ns.length := List.length_map _
      rw [List.length_append, List.length_append, List.length_take, List.length_drop]
      show _ + 1 + _ ≤ 900
      omega
end
end My
set_option Elab.async false
set_option linter.all false
set_option maxRecDepth 100000
set_option maxHeartbeats 8000000
namespace My
open PySem PySem.Spec PyProof.Rows L2
local macro_rules | `(tactic| walk_at "lv") => `(tactic| first | exact Or.inl rfl | exact Or.inr rfl)
/-- [str(x) for x in a row]: its words -/
theorem lc_parts {σ : L2.St} {H : Hp} {Q : VK} {i j : Nat} {a : Addr} {xs : List V} {ws : List (List Nat)} (hj : σ[j]? = some (some (.ref a))) (sq : SqA H a xs) (pw : PartsW xs ws) (l9 : ws.length ≤ 1000)
    (hp : ∀ v, ((wipe σ [i]).set i (some v))[i]? = some (some v)) (hw : ∀ v, wipe ((wipe σ [i]).set i (some v)) [i] = wipe σ [i])
    (k : ∀ D H', H D = none → Same H H' → H' D = some (.lst (ws.map wordV)) → Q (.ref D) H') :
    tLc (iSeqV j) (gName i) tYes (tCB rStr (tCons (tVar i) tNil)) [i] σ H Q := by
  refine ⟨a, xs, hj, sq, fun J wk D hD => lc_it wk (fun n H3 => Same H H3 ∧ H3 D = some (.lst ((ws.take n).map wordV))) ⟨same_new (Same.refl _) hD, upd_same⟩ (fun n H3 _ h => ?_) ?_ ?_⟩
  · rcases sq with e | e
    · rw [h.1 _ _ e, e]
    · rw [h.1 _ _ e, e]
  · rintro n v H3 H4 hi ⟨s3, e3⟩ ⟨rfl, e4⟩
    obtain ⟨u, eu⟩ : ∃ u, ws[n]? = some u := ⟨_, List.getElem?_eq_getElem (by rw [pw.1]; exact hi)⟩
    refine ⟨hw _, v, hp _, ?_⟩
    dsimp only [tNil]
    refine partW_str (pw.2 n v u e4 eu) ?_
    refine ⟨_, e3, smallB (by rw [List.length_map, List.length_take]; omega), same_at s3 hD, ?_⟩
    rw [upd_same, take_snoc eu, List.map_append]
    rfl
  · rintro H3 ⟨s3, e3⟩
    rw [List.take_of_length_le (by rw [pw.1]; exact Nat.le_refl _)] at e3
    exact k D H3 hD s3 e3
section
variable {P : Program} {w : World} {K : PySem.W.Frag} {mg : Str → Option Value} {base : Heap}
/-! ### _law_line -/
def spLin : Sp := fun vs H Q _ => ∃ (q a b c : Addr) (lo hi m : Int) (ins us ds : List Int), vs = [.ref q] ∧ H q = some (.tup [.int lo, .int hi, .ref a, .int m, .ref b, .ref c]) ∧ SqA H a (ins.map V.int) ∧ SqA H b (us.map V.int) ∧ SqA H c (ds.map V.int) ∧ (Few [lo, hi, m] ∧ Few ins ∧ Few us ∧ Few ds) ∧ (ins.length ≤ 100 ∧ us.length ≤ 100 ∧ ds.length ≤ 100) ∧
  ∀ t H', Same H H' → H' t = some (.lst ((lotWs lo hi ins m us ds).map wordV)) → H t = none → Q (.ref t) H'
abbrev s_lin : Stmt := top 73
abbrev N_lin : List Str := ["_law_parts_here", "_law_low", "_law_high", "_law_inside", "_law_modulus", "_law_ups", "_law_downs", "_law_words", "_law_n"]
theorem sc_lin : FnScope N_lin ["_law_parts_here"] (defScope s_lin) := ⟨rfl, rfl, rfl, by decide +kernel, rfl, by decide +kernel, by decide +kernel⟩
theorem kp_lin (F : At K mg "_law_line" s_lin) (N : Nb mg) : Keeps CX0 P w K mg base "_law_line" 1 ["_law_parts_here"] spLin := by
  refine keeps_of F sc_lin (fun _ _ _ _ _ _ us hl => match us, hl with | [_], _ => rfl) (fun vs H Q E h => ?_) (fun f cdv A outer s H vs Q E hr h => ?_)
  · obtain ⟨q, a, b, c, lo, hi, m, ins, us, ds, rfl, _⟩ := h
    rfl
  · obtain ⟨q, a, b, c, lo, hi, m, ins, us, ds, rfl, hq, ha, hb, hc, ⟨f0, f1, f2, f3⟩, ⟨l1, l2, l3⟩, k⟩ := h
    refine ⟨_, (pss_cons (ps_asg (pv 0) (pg_tup (by rfl) (pgs_cons (pg_name (i := 1) sc_lin.nd rfl (by walk_at "lv")) (pgs_cons (pg_name (i := 2) sc_lin.nd rfl (by walk_at "lv")) (pgs_cons (pg_name (i := 3) sc_lin.nd rfl (by walk_at "lv")) (pgs_cons (pg_name (i := 4) sc_lin.nd rfl (by walk_at "lv")) (pgs_cons (pg_name (i := 5) sc_lin.nd rfl (by walk_at "lv")) (pgs_cons (pg_name (i := 6) sc_lin.nd rfl (by walk_at "lv")) pgs_nil))))))))
        (pss_cons (ps_set (i := 7) sc_lin.nd rfl (by walk_at "lv") (pe_op op_cat (pe_op op_cat (pe_op op_cat (pe_lst (pa_cons (pe_callTy (T := "str") (r := rStr) call_strA (by rfl) N.str (by decide +kernel) (pa_cons (pv 1) pa_nil)) (pa_cons (pe_callTy (T := "str") (r := rStr) call_strA (by rfl) N.str (by decide +kernel) (pa_cons (pv 2) pa_nil)) (pa_cons (pe_callTy (T := "str") (r := rStr) call_strA (by rfl) N.str (by decide +kernel) (pa_cons (pv 4) pa_nil)) (pa_cons pe_str pa_nil))))) (pe_lc (own := [("_law_n", 8)]) (g := gName 8) (tt := tYes) rfl sc_lin.nd (pi_seqV (pv 3)) (blkOk_by (N := N_lin) (sc := defScope s_lin) (by decide +kernel)) (fun _ _ _ _ _ => (pg_name (i := 8) sc_lin.nd rfl (by walk_at "lv"))) (fun _ _ _ _ _ => pts_nil) (fun _ _ _ _ _ => (pe_callTy (T := "str") (r := rStr) call_strA (by rfl) N.str (by decide +kernel) (pa_cons (pv 8) pa_nil))))) (pe_lst (pa_cons pe_str pa_nil))) (pe_lc (own := [("_law_n", 8)]) (g := gName 8) (tt := tYes) rfl sc_lin.nd (pi_seqV (pv 5)) (blkOk_by (N := N_lin) (sc := defScope s_lin) (by decide +kernel)) (fun _ _ _ _ _ => (pg_name (i := 8) sc_lin.nd rfl (by walk_at "lv"))) (fun _ _ _ _ _ => pts_nil) (fun _ _ _ _ _ => (pe_callTy (T := "str") (r := rStr) call_strA (by rfl) N.str (by decide +kernel) (pa_cons (pv 8) pa_nil))))))
        (pss_one (ps_ret (pe_op op_cat (pe_op op_cat (pv 7) (pe_lst (pa_cons pe_str pa_nil))) (pe_lc (own := [("_law_n", 8)]) (g := gName 8) (tt := tYes) rfl sc_lin.nd (pi_seqV (pv 6)) (blkOk_by (N := N_lin) (sc := defScope s_lin) (by decide +kernel)) (fun _ _ _ _ _ => (pg_name (i := 8) sc_lin.nd rfl (by walk_at "lv"))) (fun _ _ _ _ _ => pts_nil) (fun _ _ _ _ _ => (pe_callTy (T := "str") (r := rStr) call_strA (by rfl) N.str (by decide +kernel) (pa_cons (pv 8) pa_nil))))))))), ?_⟩
    refine ⟨_, rfl, q, _, rfl, SqT.of hq, rfl, _, _, rfl, _, _, rfl, _, _, rfl, _, _, rfl, _, _, rfl, _, _, rfl, rfl, ?_⟩
    refine ⟨_, rfl, ?_⟩
    dsimp only [tNil]
    refine partW_str (part_num (f0 lo (by simp))) ?_
    refine ⟨_, rfl, ?_⟩
    dsimp only [tNil]
    refine partW_str (part_num (f0 hi (by simp))) ?_
    refine ⟨_, rfl, ?_⟩
    dsimp only [tNil]
    refine partW_str (part_num (f0 m (by simp))) ?_
    refine ⟨(by show 4 ≤ sizeLine; decide), fun t1 n1 => ?_⟩
    have s1 := same_new (o := .lst [.str (SX.S (wNum lo)), .str (SX.S (wNum hi)), .str (SX.S (wNum m)), .str "inside"]) (Same.refl H) n1
    refine lc_parts (j := 3) (i := 8) rfl (ha.same s1) (parts_nums f1) (by rw [List.length_map]; omega) (fun _ => rfl) (fun _ => rfl) fun t2 H2 n2 s2 e2 => ?_
    have w1 := s2 t1 _ upd_same
    refine ⟨t1, t2, _, _, rfl, rfl, w1, e2, by rw [List.length_map, List.length_map]; show 4 + _ ≤ _; rw [sizeLine_eq]; omega, fun t3 n3 => ?_⟩
    have s3 := same_new (o := .lst ([.str (SX.S (wNum lo)), .str (SX.S (wNum hi)), .str (SX.S (wNum m)), .str "inside"] ++ (ins.map wNum).map wordV)) (Same.refl H2) n3
    refine ⟨(by show 1 ≤ sizeLine; decide), fun t4 n4 => ?_⟩
    have s4 := same_new (o := .lst [.str "ups"]) (Same.refl _) n4
    refine ⟨t3, t4, _, _, rfl, rfl, s4 _ _ upd_same, upd_same, by rw [List.length_append, List.length_map, List.length_map]; show 4 + _ + 1 ≤ _; rw [sizeLine_eq]; omega, fun t5 n5 => ?_⟩
    have s5 := same_new (o := .lst ([.str (SX.S (wNum lo)), .str (SX.S (wNum hi)), .str (SX.S (wNum m)), .str "inside"] ++ (ins.map wNum).map wordV ++ [.str "ups"])) (Same.refl _) n5
    have s15 := s1.trans (s2.trans (s3.trans (s4.trans s5)))
    refine lc_parts (j := 5) (i := 8) rfl (hb.same s15) (parts_nums f2) (by rw [List.length_map]; omega) (fun _ => rfl) (fun _ => rfl) fun t6 H6 n6 s6 e6 => ?_
    refine ⟨t5, t6, _, _, rfl, rfl, s6 _ _ upd_same, e6, by rw [List.length_append, List.length_append, List.length_map, List.length_map, List.length_map, List.length_map]; show 4 + _ + 1 + _ ≤ _; rw [sizeLine_eq]; omega, fun t7 n7 => ?_⟩
    have s7 := same_new (o := .lst ([.str (SX.S (wNum lo)), .str (SX.S (wNum hi)), .str (SX.S (wNum m)), .str "inside"] ++ (ins.map wNum).map wordV ++ [.str "ups"] ++ (us.map wNum).map wordV)) (Same.refl _) n7
    have s17 := s15.trans (s6.trans s7)
    refine ⟨_, rfl, (by show 1 ≤ sizeLine; decide), fun t8 n8 => ?_⟩
    have s8 := same_new (o := .lst [.str "downs"]) (Same.refl _) n8
    refine ⟨t7, t8, _, _, rfl, rfl, s8 _ _ upd_same, upd_same, by rw [List.length_append, List.length_append, List.length_append, List.length_map, List.length_map, List.length_map, List.length_map]; show 4 + _ + 1 + _ + 1 ≤ _; rw [sizeLine_eq]; omega, fun t9 n9 => ?_⟩
    have s9 := same_new (o := .lst ([.str (SX.S (wNum lo)), .str (SX.S (wNum hi)), .str (SX.S (wNum m)), .str "inside"] ++ (ins.map wNum).map wordV ++ [.str "ups"] ++ (us.map wNum).map wordV ++ [.str "downs"])) (Same.refl _) n9
    have s19 := s17.trans (s8.trans s9)
    refine lc_parts (j := 6) (i := 8) rfl (hc.same s19) (parts_nums f3) (by rw [List.length_map]; omega) (fun _ => rfl) (fun _ => rfl) fun tA HA nA sA eA => ?_
    refine ⟨t9, tA, _, _, rfl, rfl, sA _ _ upd_same, eA, by rw [List.length_append, List.length_append, List.length_append, List.length_append, List.length_map, List.length_map, List.length_map, List.length_map, List.length_map, List.length_map]; show 4 + _ + 1 + _ + 1 + _ ≤ _; rw [sizeLine_eq]; omega, fun tB nB => ?_⟩
    have s1A := s19.trans sA
    refine k tB _ (same_new s1A nB) ?_ (s1A.free nB)
    rw [upd_same]
    congr 2
    unfold lotWs
    simp only [List.map_append, List.map_cons, List.map_nil, List.append_assoc, List.cons_append, List.nil_append, wordV, s_inside, s_ups, s_downs]
end
end My
set_option Elab.async false
set_option linter.all false
set_option maxRecDepth 100000
set_option maxHeartbeats 8000000
namespace My
open PySem PySem.Spec PyProof.Rows L2
local macro_rules | `(tactic| walk_at "lv") => `(tactic| first | exact Or.inl rfl | exact Or.inr rfl)
/-! ### the first wrong part -/
def dueN : List Bool → List Str → Option Str
  | b :: bs, z :: zs => if b = true then some z else dueN bs zs
  | _, _ => none
theorem dueN_step : ∀ (bs : List Bool) (zs : List Str) (i : Nat) (b : Bool) (z : Str), bs[i]? = some b → zs[i]? = some z → dueN (bs.take (i + 1)) zs = (match dueN (bs.take i) zs with | some y => some y | none => if b = true then some z else none)
  | [], _, _, _, _, h, _ => by simp at h
  | _ :: _, [], _, _, _, _, h => by simp at h
  | b' :: bs, z' :: zs, 0, b, z, h, h' => by
    have h : some b' = some b := h
    have h' : some z' = some z := h'
    cases h
    cases h'
    show (if b' = true then some z' else dueN (List.take 0 bs) zs) = _
    cases b' with
    | true => rfl
    | false =>
      show dueN (List.take 0 bs) zs = none
      rfl
  | b' :: bs, z' :: zs, i + 1, b, z, h, h' => by
    have ih := dueN_step bs zs i b z (by simpa using h) (by simpa using h')
    show (if b' = true then some z' else dueN (bs.take (i + 1)) zs) = (match (if b' = true then some z' else dueN (bs.take i) zs) with | some y => some y | none => if b = true then some z else none)
    cases b' with
    | true => rfl
    | false => exact ih
theorem dueN_mem : ∀ {bs : List Bool} {zs : List Str} {z : Str}, dueN bs zs = some z → z ∈ zs
  | [], _, _, h => by cases h
  | _ :: _, [], _, h => by cases h
  | b :: bs, y :: zs, z, h => by
    have h : (if b = true then some y else dueN bs zs) = some z := h
    cases b with
    | true => cases h; exact List.mem_cons_self
    | false => exact List.mem_cons_of_mem _ (dueN_mem (bs := bs) h)
def partWords : List Str := ["core", "inside", "modulus", "ups", "downs"]
def dueL : Option Str → List V
  | none => [.str "good"]
  | some z => [.str "bad", .str z]
def dueD : Option Str → PyData
  | none => .tuple [.str "good"]
  | some z => .tuple [.str "bad", .str z]
theorem shp_word {z : Str} (h : z ∈ partWords) : SeqAt.shaped (.str z) = true := by
  simp only [partWords, List.mem_cons, List.not_mem_nil, or_false] at h
  rcases h with rfl | rfl | rfl | rfl | rfl <;> kernel_rfl
theorem due_dp {K : PySem.W.Frag} {H : Hp} {a : Addr} {o : Option Str} (e : H a = some (.tup (dueL o))) : Dp K H (.ref a) (dueD o) := by
  cases o with
  | none => exact .tup (SqT.of e) (.cons (.str _) .nil)
  | some z => exact .tup (SqT.of e) (.cons (.str _) (.cons (.str _) .nil))
theorem due_shp {bs : List Bool} : SeqAt.shaped (dueD (dueN bs partWords)) = true := by
  cases h : dueN bs partWords with
  | none => kernel_rfl
  | some z =>
    have := shp_word (dueN_mem h)
    simp only [partWords, List.mem_cons, List.not_mem_nil, or_false] at *
    have hm := dueN_mem h
    simp only [partWords, List.mem_cons, List.not_mem_nil, or_false] at hm
    rcases hm with rfl | rfl | rfl | rfl | rfl <;> kernel_rfl
theorem due_good {bs : List Bool} : PyData.eqv (dueD (dueN bs partWords)) (.tuple [.str "good"]) = (dueN bs partWords).isNone := by
  cases dueN bs partWords with
  | none => kernel_rfl
  | some z =>
    show PyData.eqv (.tuple [.str "bad", .str z]) (.tuple [.str "good"]) = false
    simp [PyData.eqv, PyData.eqvAll]
/-! ### things that keep away from two places -/
section
variable {p L : Addr} {H H' : Hp} {x : V} {d : PyData}
def TwoT (p L : Addr) (H : Hp) (x : V) (d : PyData) : Prop := Tg p H x d ∧ Tg L H x d
def TwoR (p L : Addr) (H : Hp) (x : V) (d : PyData) : Prop := RowX p H x d ∧ RowX L H x d
theorem But2.swap (k : But2 p L H H') : But2 L p H H' := fun b o h1 h2 e => k b o h2 h1 e
theorem TwoT.keep (k : But2 p L H H') (h : TwoT p L H x d) : TwoT p L H' x d := ⟨Tg.two k.swap _ _ h.2 h.1, Tg.two k _ _ h.1 h.2⟩
theorem TwoR.keep (k : But2 p L H H') (hp : ∀ kvs, H p ≠ some (.dK kvs)) (hL : ∀ kvs, H L ≠ some (.dK kvs)) (h : TwoR p L H x d) : TwoR p L H' x d := by
  obtain ⟨h1, h2⟩ := h
  rcases h1 with h1 | ⟨a, kvs, rfl, e, rfl⟩
  · rcases h2 with h2 | ⟨a, kvs, rfl, e, rfl⟩
    · have := TwoT.keep k ⟨h1, h2⟩
      exact ⟨.inl this.1, .inl this.2⟩
    · cases h1
  · have e' := k a _ (fun z => hp kvs (z ▸ e)) (fun z => hL kvs (z ▸ e)) e
    exact ⟨.inr ⟨a, kvs, rfl, e', rfl⟩, .inr ⟨a, kvs, rfl, e', rfl⟩⟩
theorem TwoT.fresh {o : HO} (n : H L = none) (h : Tg p H x d) : TwoT p L (upd H L o) x d := TwoT.keep (fun b u _ _ e => same_new (Same.refl H) n b u e) ⟨h, Tg.new n _ _ h⟩
theorem TwoR.of (h : TwoT p L H x d) : TwoR p L H x d := ⟨.inl h.1, .inl h.2⟩
theorem tgAll_ints_eq : ∀ {xs : List V} {ns : List Int}, TgAll p H xs (intsL ns) → xs = ns.map V.int
  | _, [], h => by cases h; rfl
  | _, n :: ns, h => by
    cases h with
    | cons a r => cases a; rw [tgAll_ints_eq (ns := ns) r]; rfl
theorem rowX_seq {ns : List Int} (h : RowX p H x d) (e : SqData d (intsL ns)) : ∃ a, x = .ref a ∧ SqA H a (ns.map V.int) := by
  have er : rowsOf d = some (intsL ns) := by rcases e with rfl | rfl <;> rfl
  rcases h with h | ⟨a, kvs, _, _, rfl⟩
  · obtain ⟨a, xs, rfl, sq, t⟩ := h.rows er
    rw [tgAll_ints_eq t] at sq
    exact ⟨a, rfl, sq⟩
  · rcases e with e | e <;> cases e
end
theorem unl_good {lo hi : Int} {ns : List Int} {d : PyData} (h : ∀ n ∈ ns, lo ≤ n ∧ n ≤ hi) (nd : ns.Nodup) (e : SqData d (intsL ns)) : unlD lo hi d = true := by
  have er : rowsOf d = some (intsL ns) := by rcases e with rfl | rfl <;> rfl
  unfold unlD
  rw [er]
  show (_ && _) = true
  rw [Bool.and_eq_true]
  refine ⟨List.all_eq_true.mpr fun d hd => ?_, decide_eq_true ?_⟩
  · obtain ⟨n, hn, rfl⟩ := List.mem_map.mp hd
    exact wDd_int (h n hn)
  · unfold intsL
    rw [List.map_map]
    rw [show (ns.map (intD ∘ PyData.int)) = ns from List.map_id' (l := ns)]
    exact nd
/-- the six parts, some of them spoilt -/
structure Par (p L : Addr) (T : Tl) (b0 b1 b2 b3 b4 : Bool) (H : Hp) (xl xh xi xm xu xd : V) (dlo dhi di dm du dd : PyData) : Prop where
  l : H L = some (.lst [xl, xh, xi, xm, xu, xd])
  tl : TwoT p L H xl dlo
  th : TwoT p L H xh dhi
  ti : TwoR p L H xi di
  tm : TwoT p L H xm dm
  tu : TwoR p L H xu du
  td : TwoR p L H xd dd
  n : Len900 di ∧ Len900 du ∧ Len900 dd
  c1 : b0 = true → coreB dlo dhi = false
  c0 : b0 = false → dlo = .int T.lo ∧ dhi = .int T.hi
  i1 : b1 = true → unlD T.lo T.hi di = false
  i0 : b1 = false → SqData di (intsL (cIns T))
  m1 : b2 = true → wDd 1 10080 dm = false
  m0 : b2 = false → dm = .int T.us.length
  u1 : b3 = true → unlD 0 ((T.us.length : Int) - 1) du = false
  u0 : b3 = false → SqData du (intsL (res T.us))
  d1 : b4 = true → unlD 0 ((T.us.length : Int) - 1) dd = false
  d0 : b4 = false → SqData dd (intsL (res T.ds))
section
variable {p L : Addr} {T : Tl} {b0 b1 b2 b3 b4 : Bool} {H H' : Hp} {xl xh xi xm xu xd : V} {dlo dhi di dm du dd : PyData}
theorem Par.keep (h : Par p L T b0 b1 b2 b3 b4 H xl xh xi xm xu xd dlo dhi di dm du dd) (k : But2 p L H H') (hp : ∀ kvs, H p ≠ some (.dK kvs)) (l : H' L = some (.lst [xl, xh, xi, xm, xu, xd])) : Par p L T b0 b1 b2 b3 b4 H' xl xh xi xm xu xd dlo dhi di dm du dd := by
  have hL : ∀ kvs, H L ≠ some (.dK kvs) := fun kvs e => by rw [h.l] at e; cases e
  exact ⟨l, h.tl.keep k, h.th.keep k, h.ti.keep k hp hL, h.tm.keep k, h.tu.keep k hp hL, h.td.keep k hp hL, h.n, h.c1, h.c0, h.i1, h.i0, h.m1, h.m0, h.u1, h.u0, h.d1, h.d0⟩
theorem Par.but (h : Par p L T b0 b1 b2 b3 b4 H xl xh xi xm xu xd dlo dhi di dm du dd) (b : But p H H') (ne : L ≠ p) (hp : ∀ kvs, H p ≠ some (.dK kvs)) : Par p L T b0 b1 b2 b3 b4 H' xl xh xi xm xu xd dlo dhi di dm du dd :=
  h.keep (fun q o n _ e => b q o n e) hp (b _ _ ne h.l)
theorem Par.set0 {yl yh : V} {el eh : PyData} (h : Par p L T false b1 b2 b3 b4 H xl xh xi xm xu xd dlo dhi di dm du dd) (hp : ∀ kvs, H p ≠ some (.dK kvs)) (tl : TwoT p L H yl el) (th : TwoT p L H yh eh) (c : coreB el eh = false) :
    Par p L T true b1 b2 b3 b4 (upd H L (.lst [yl, yh, xi, xm, xu, xd])) yl yh xi xm xu xd el eh di dm du dd := by
  have k : But2 p L H (upd H L (.lst [yl, yh, xi, xm, xu, xd])) := fun b o _ n e => by rw [upd_ne n]; exact e
  have hL : ∀ kvs, H L ≠ some (.dK kvs) := fun kvs e => by rw [h.l] at e; cases e
  exact ⟨upd_same, tl.keep k, th.keep k, h.ti.keep k hp hL, h.tm.keep k, h.tu.keep k hp hL, h.td.keep k hp hL, h.n, fun _ => c, (fun z => nomatch z), h.i1, h.i0, h.m1, h.m0, h.u1, h.u0, h.d1, h.d0⟩
theorem Par.set1 {y : V} {e : PyData} (h : Par p L T b0 false b2 b3 b4 H xl xh xi xm xu xd dlo dhi di dm du dd) (hp : ∀ kvs, H p ≠ some (.dK kvs)) (t : TwoR p L H y e) (n : Len900 e) (c : unlD T.lo T.hi e = false) :
    Par p L T b0 true b2 b3 b4 (upd H L (.lst [xl, xh, y, xm, xu, xd])) xl xh y xm xu xd dlo dhi e dm du dd := by
  have k : But2 p L H (upd H L (.lst [xl, xh, y, xm, xu, xd])) := fun b o _ n e => by rw [upd_ne n]; exact e
  have hL : ∀ kvs, H L ≠ some (.dK kvs) := fun kvs e => by rw [h.l] at e; cases e
  exact ⟨upd_same, h.tl.keep k, h.th.keep k, t.keep k hp hL, h.tm.keep k, h.tu.keep k hp hL, h.td.keep k hp hL, ⟨n, h.n.2⟩, h.c1, h.c0, fun _ => c, (fun z => nomatch z), h.m1, h.m0, h.u1, h.u0, h.d1, h.d0⟩
theorem Par.set2 {y : V} {e : PyData} (h : Par p L T b0 b1 false b3 b4 H xl xh xi xm xu xd dlo dhi di dm du dd) (hp : ∀ kvs, H p ≠ some (.dK kvs)) (t : TwoT p L H y e) (c : wDd 1 10080 e = false) :
    Par p L T b0 b1 true b3 b4 (upd H L (.lst [xl, xh, xi, y, xu, xd])) xl xh xi y xu xd dlo dhi di e du dd := by
  have k : But2 p L H (upd H L (.lst [xl, xh, xi, y, xu, xd])) := fun b o _ n e => by rw [upd_ne n]; exact e
  have hL : ∀ kvs, H L ≠ some (.dK kvs) := fun kvs e => by rw [h.l] at e; cases e
  exact ⟨upd_same, h.tl.keep k, h.th.keep k, h.ti.keep k hp hL, t.keep k, h.tu.keep k hp hL, h.td.keep k hp hL, h.n, h.c1, h.c0, h.i1, h.i0, fun _ => c, (fun z => nomatch z), h.u1, h.u0, h.d1, h.d0⟩
theorem Par.set3 {y : V} {e : PyData} (h : Par p L T b0 b1 b2 false b4 H xl xh xi xm xu xd dlo dhi di dm du dd) (hp : ∀ kvs, H p ≠ some (.dK kvs)) (t : TwoR p L H y e) (n : Len900 e) (c : unlD 0 ((T.us.length : Int) - 1) e = false) :
    Par p L T b0 b1 b2 true b4 (upd H L (.lst [xl, xh, xi, xm, y, xd])) xl xh xi xm y xd dlo dhi di dm e dd := by
  have k : But2 p L H (upd H L (.lst [xl, xh, xi, xm, y, xd])) := fun b o _ n e => by rw [upd_ne n]; exact e
  have hL : ∀ kvs, H L ≠ some (.dK kvs) := fun kvs e => by rw [h.l] at e; cases e
  exact ⟨upd_same, h.tl.keep k, h.th.keep k, h.ti.keep k hp hL, h.tm.keep k, t.keep k hp hL, h.td.keep k hp hL, ⟨h.n.1, n, h.n.2.2⟩, h.c1, h.c0, h.i1, h.i0, h.m1, h.m0, fun _ => c, (fun z => nomatch z), h.d1, h.d0⟩
theorem Par.set4 {y : V} {e : PyData} (h : Par p L T b0 b1 b2 b3 false H xl xh xi xm xu xd dlo dhi di dm du dd) (hp : ∀ kvs, H p ≠ some (.dK kvs)) (t : TwoR p L H y e) (n : Len900 e) (c : unlD 0 ((T.us.length : Int) - 1) e = false) :
    Par p L T b0 b1 b2 b3 true (upd H L (.lst [xl, xh, xi, xm, xu, y])) xl xh xi xm xu y dlo dhi di dm du e := by
  have k : But2 p L H (upd H L (.lst [xl, xh, xi, xm, xu, y])) := fun b o _ n e => by rw [upd_ne n]; exact e
  have hL : ∀ kvs, H L ≠ some (.dK kvs) := fun kvs e => by rw [h.l] at e; cases e
  exact ⟨upd_same, h.tl.keep k, h.th.keep k, h.ti.keep k hp hL, h.tm.keep k, h.tu.keep k hp hL, t.keep k hp hL, ⟨h.n.1, h.n.2.1, n⟩, h.c1, h.c0, h.i1, h.i0, h.m1, h.m0, h.u1, h.u0, fun _ => c, (fun z => nomatch z)⟩
theorem Par.ends (h : Par p L T b0 b1 b2 b3 b4 H xl xh xi xm xu xd dlo dhi di dm du dd) (dr : Drawn T) {fl fh : Int} {fm : Nat} (fo : IsForm T.has T.U T.D fl fh fm) (l1 : -20000 ≤ fl) (l2 : fh ≤ 20000) (K : PySem.W.Frag) :
    MakeEnd K (fun z => dueN [b0, b1, b2, b3, b4] partWords = some z) (fun lo hi m => dueN [b0, b1, b2, b3, b4] partWords = none ∧ ∃ T fl fh fm, LotGood H [.int lo, .int hi, xi, .int m, xu, xd] T fl fh fm) dlo dhi di dm du dd := by
  have hh : T.hi = T.lo + T.cs.length - 1 := rfl
  have told := told_parts dr.ok (List.Perm.refl (cIns T)) (List.Perm.refl (res T.us)) (List.Perm.refl (res T.ds))
  have cg : coreB (.int T.lo) (.int T.hi) = true := by
    show (decide (-20000 ≤ T.lo) && (decide (T.hi ≤ 20000) && decide (T.lo ≤ T.hi + 1))) = true
    rw [decide_eq_true dr.lo, decide_eq_true dr.hi, decide_eq_true (by omega)]
    rfl
  refine ⟨fun hc => ?_, fun lo hi el eh hc => ?_⟩
  · cases b0 with
    | true => rfl
    | false =>
      obtain ⟨e1, e2⟩ := h.c0 rfl
      rw [e1, e2, cg] at hc
      cases hc
  cases b0 with
  | true => rw [h.c1 rfl] at hc; cases hc
  | false =>
  obtain ⟨e1, e2⟩ := h.c0 rfl
  rw [e1] at el
  rw [e2] at eh
  cases el
  cases eh
  refine ⟨fun hi' => ?_, fun hi' => ?_⟩
  · cases b1 with
    | true => rfl
    | false => rw [unl_good told.i (cIns_nodup T) (h.i0 rfl)] at hi'; cases hi'
  cases b1 with
  | true => rw [h.i1 rfl] at hi'; cases hi'
  | false =>
  refine ⟨fun hm => ?_, fun m em m1 m2 => ?_⟩
  · cases b2 with
    | true => rfl
    | false =>
      have h0 := dr.ok.pos
      have h12 := dr.m
      rw [h.m0 rfl, wDd_int (by omega)] at hm
      cases hm
  cases b2 with
  | true => exact absurd (h.m1 rfl) (by rw [em, wDd_int ⟨m1, m2⟩]; exact fun z => nomatch z)
  | false =>
  have em2 := h.m0 rfl
  rw [em] at em2
  cases em2
  refine ⟨fun hu => ?_, fun hu => ?_⟩
  · cases b3 with
    | true => rfl
    | false => rw [unl_good told.u (fil_nodup _ _ _) (h.u0 rfl)] at hu; cases hu
  cases b3 with
  | true => rw [h.u1 rfl] at hu; cases hu
  | false =>
  refine ⟨fun hd => ?_, fun hd => ?_⟩
  · cases b4 with
    | true => rfl
    | false => rw [unl_good told.d (fil_nodup _ _ _) (h.d0 rfl)] at hd; cases hd
  cases b4 with
  | true => rw [h.d1 rfl] at hd; cases hd
  | false =>
  refine ⟨rfl, T, fl, fh, fm, ?_⟩
  obtain ⟨a, rfl, sa⟩ := rowX_seq h.ti.1 (h.i0 rfl)
  obtain ⟨b, rfl, sb⟩ := rowX_seq h.tu.1 (h.u0 rfl)
  obtain ⟨c, rfl, sc⟩ := rowX_seq h.td.1 (h.d0 rfl)
  have h12 := dr.m
  have h8 := dr.c
  have hlo := dr.lo
  have hhi := dr.hi
  exact ⟨a, b, c, _, _, _, rfl, ⟨dr.ok, by omega, by omega, ⟨by omega, by omega⟩⟩, by omega, told, sa, sb, sc, fo, l1, l2⟩
end
end My
set_option Elab.async false
set_option linter.all false
set_option maxRecDepth 100000
set_option maxHeartbeats 8000000
namespace My
open PySem PySem.Spec PyProof.Rows L2
local macro_rules | `(tactic| walk_at "lv") => `(tactic| first | exact Or.inl rfl | exact Or.inr rfl)
section
variable {P : Program} {w : World} {K : PySem.W.Frag} {mg : Str → Option Value} {base : Heap}
/-! ### _law_refusals -/
theorem lc_drawC {σ : L2.St} {H : Hp} {Q : VK} {i m : Nat} {k0 : Int} {p c : Addr} (hm2 : m ≤ 1000) (kp : 0 < k0 ∧ k0.natAbs.log2 < 9000) (hh : HandC H p c) (hp : ∀ v, ((wipe σ [i]).set i (some v))[0]? = some (some (.ref p)))
    (hw : ∀ v, wipe ((wipe σ [i]).set i (some v)) [i] = wipe σ [i])
    (k : ∀ D (bs : List Bool) H', bs.length = m → H D = none → H' D = some (.lst (bs.map V.bl)) → HandC H' p c → But p H H' → Q (.ref D) H') :
    tLc (iRng1 (tCons (tC (.int (m : Int))) tNil)) (gName i) tYes (tOp rEq (tCall spDraw [] E0 (tCons (tVar 0) (tCons (tC (.int k0)) tNil))) (tC (.int 0))) [i] σ H Q := by
  refine ⟨_, rfl, by omega, by omega, fun D hD => ?_⟩
  rw [show ((m : Int)).toNat = m by omega]
  have hn := hh.ne hD
  refine lc_range (lo := 0) (n := m) (fun x H2 => ∃ bs : List Bool, bs.length = x ∧ H2 D = some (.lst (bs.map V.bl)) ∧ HandC H2 p c ∧ But p H H2) ⟨[], rfl, upd_same, hh.upd hn.1 hn.2, fun b o hb e => by rw [upd_ne (ne_of_none e hD)]; exact e⟩ ?_ ?_
  · rintro x H2 hx ⟨bs, hl, e, h2, b2⟩
    refine ⟨hw _, _, hp _, p, c, k0, rfl, h2, kp, fun r H3 r0 r1 h3 b3 => ⟨rfl, _, b3 _ _ hn.1.symm e, small1000 (by rw [List.length_map]; omega), bs ++ [decide (V.int r = V.int 0)], by rw [List.length_append, hl]; rfl, ?_, h3.upd hn.1 hn.2, fun b o hb z => ?_⟩⟩
    · rw [List.map_append]
      exact upd_same
    · rw [upd_ne (ne_of_none z hD)]
      exact b3 _ _ hb (b2 _ _ hb z)
  · rintro H2 ⟨bs, hl, e, h2, b2⟩
    exact k D bs H2 hl hD e h2 b2
/-- what stands while the parts are spoilt -/
structure Bk (p c L wr a1 a2 a3 : Addr) (T : Tl) (bs : List Bool) (H0 H : Hp) : Prop where
  h : HandC H p c
  b : But p H0 H
  ew : H wr = some (.lst (bs.map V.bl))
  e1 : H a1 = some (.lst ((cIns T).map V.int))
  e2 : H a2 = some (.lst ((res T.us).map V.int))
  e3 : H a3 = some (.lst ((res T.ds).map V.int))
  n1 : a1 ≠ p ∧ a1 ≠ L
  n2 : a2 ≠ p ∧ a2 ≠ L
  n3 : a3 ≠ p ∧ a3 ≠ L
  nw : wr ≠ p ∧ wr ≠ L
  nL : H0 L = none ∧ L ≠ p ∧ L ≠ c
theorem Bk.but {p c L wr a1 a2 a3 : Addr} {T : Tl} {bs : List Bool} {H0 H H' : Hp} (k : Bk p c L wr a1 a2 a3 T bs H0 H) (b : But p H H') (h : HandC H' p c) : Bk p c L wr a1 a2 a3 T bs H0 H' :=
  ⟨h, k.b.trans b, b _ _ k.nw.1 k.ew, b _ _ k.n1.1 k.e1, b _ _ k.n2.1 k.e2, b _ _ k.n3.1 k.e3, k.n1, k.n2, k.n3, k.nw, k.nL⟩
theorem Bk.put {p c L wr a1 a2 a3 : Addr} {T : Tl} {bs : List Bool} {H0 H : Hp} {o : HO} (k : Bk p c L wr a1 a2 a3 T bs H0 H) : Bk p c L wr a1 a2 a3 T bs H0 (upd H L o) :=
  ⟨k.h.upd k.nL.2.1.symm k.nL.2.2.symm, fun b u hb e => by rw [upd_ne (ne_of_none e k.nL.1)]; exact k.b _ _ hb e, by rw [upd_ne k.nw.2]; exact k.ew, by rw [upd_ne k.n1.2]; exact k.e1, by rw [upd_ne k.n2.2]; exact k.e2, by rw [upd_ne k.n3.2]; exact k.e3, k.n1, k.n2, k.n3, k.nw, k.nL⟩
def spRfs : Sp := fun vs H Q _ => ∃ (p c t c' u' d' : Addr) (T : Tl) (fl fh : Int) (fm : Nat), vs = [.ref p, .ref t] ∧ HandC H p c ∧ TellAt H t T c' u' d' ∧ Drawn T ∧ IsForm T.has T.U T.D fl fh fm ∧ -20000 ≤ fl ∧ fh ≤ 20000 ∧ ∀ H', HandC H' p c → But p H H' → Q (.bl true) H'
abbrev RfI (p c t q wr a1 a2 a3 : Addr) (T : Tl) (bs : List Bool) (H0 : Hp) (f0 f1 f2 f3 f4 : Bool) (σ : L2.St) (H : Hp) : Prop := ∃ (L : Addr) (x10 x11 x12 : Option V) (xl xh xi xm xu xd : V) (dlo dhi di dm du dd : PyData),
  σ = [some (.ref p), some (.ref t), some (.int T.lo), some (.int T.hi), some (.ref a1), some (.int T.us.length), some (.ref a2), some (.ref a3), some (.ref wr), some (.ref L), x10, x11, x12, none, none] ∧ Bk p c L wr a1 a2 a3 T bs H0 H ∧ Par p L T f0 f1 f2 f3 f4 H xl xh xi xm xu xd dlo dhi di dm du dd
theorem core_no {a b : Int} (h : ¬ (-20000 ≤ a ∧ b ≤ 20000 ∧ a ≤ b + 1)) : coreB (.int a) (.int b) = false := by
  show (decide (-20000 ≤ a) && (decide (b ≤ 20000) && decide (a ≤ b + 1))) = false
  by_cases h1 : -20000 ≤ a
  · by_cases h2 : b ≤ 20000
    · rw [decide_eq_false (p := a ≤ b + 1) fun z => h ⟨h1, h2, z⟩, Bool.and_false, Bool.and_false]
    · rw [decide_eq_false h2, Bool.false_and, Bool.and_false]
  · rw [decide_eq_false h1, Bool.false_and]
theorem len_sq {d : PyData} {ns : List Int} (e : SqData d (intsL ns)) (l : ns.length ≤ 900) : Len900 d := fun ds er => by
  have : rowsOf d = some (intsL ns) := by rcases e with rfl | rfl <;> rfl
  rw [this] at er
  cases er
  unfold intsL
  rw [List.length_map]
  exact l
theorem shp_ints (ns : List Int) : shp2 (intsL ns) := shp2_of fun e he => by
  obtain ⟨n, _, rfl⟩ := List.mem_map.mp he
  exact small_int n
theorem due_refl (o : Option Str) : PyData.eqv (dueD o) (dueD o) = true := by
  cases o with
  | none => kernel_rfl
  | some z => simp [dueD, PyData.eqv, PyData.eqvAll]
abbrev s_rfs : Stmt := top 74
abbrev N_rfs : List Str := ["_law_hand_here", "_law_telling", "_law_low", "_law_high", "_law_inside", "_law_modulus", "_law_ups", "_law_downs", "_law_wrong", "_law_parts_here", "_law_odd", "_law_far", "_law_core", "_law_due", "_law_k"]
theorem sc_rfs : FnScope N_rfs ["_law_hand_here", "_law_telling"] (defScope s_rfs) := ⟨rfl, rfl, rfl, by decide +kernel, rfl, by decide +kernel, by decide +kernel⟩
theorem kp_rfs (F : At K mg "_law_refusals" s_rfs) (N : Nb mg) (Gp : Keeps CX0 P w K mg base "_law_parts" 1 ["_law_telling"] spParts) (G : Keeps CX0 P w K mg base "_law_draw" 2 ["_law_hand_here", "_law_many"] spDraw) (Ga : Keeps CX0 P w K mg base "_law_as" 3 ["_law_hand_here", "_law_rows"] spAs) (Go : Keeps CX0 P w K mg base "_law_number_odd" 3 ["_law_hand_here"] spNo)
    (Gs : Keeps CX0 P w K mg base "_law_spoilt" 4 ["_law_hand_here", "_law_row", "_law_low", "_law_high"] spSp) (Gr : Keeps CX0 P w K mg base "_law_refused" 5 ["_law_parts_here"] spRef) : Keeps CX0 P w K mg base "_law_refusals" 6 ["_law_hand_here", "_law_telling"] spRfs := by
  refine keeps_of F sc_rfs (fun _ _ _ _ _ _ us hl => match us, hl with | [_, _], _ => rfl) (fun vs H Q E h => ?_) (fun f cdv A outer s H vs Q E hr h => ?_)
  · obtain ⟨p, c, t, c', u', d', T, fl, fh, fm, rfl, _⟩ := h
    rfl
  · obtain ⟨p, c, t, c', u', d', T, fl, fh, fm, rfl, hh, ta, dr, fo, l1, l2, k⟩ := h
    have h1 : Room 1 (A.deeper (envOfC "_law_refusals" (defScope s_rfs) s.heap.objs.size f cdv)) := hr.mono (by decide)
    have h2 : Room 2 (A.deeper (envOfC "_law_refusals" (defScope s_rfs) s.heap.objs.size f cdv)) := hr.mono (by decide)
    have h3 : Room 3 (A.deeper (envOfC "_law_refusals" (defScope s_rfs) s.heap.objs.size f cdv)) := hr.mono (by decide)
    have hr4 : Room 4 (A.deeper (envOfC "_law_refusals" (defScope s_rfs) s.heap.objs.size f cdv)) := hr.mono (by decide)
    have lens := parts_lens (T := T)
    have dm := dr.m
    have dc := dr.c
    have dl : T.ds.length ≤ 12 := by rw [dr.ok.len]; exact dm
    have hhi : T.hi = T.lo + T.cs.length - 1 := rfl
    have dlo := dr.lo
    have dhi := dr.hi
    refine ⟨_, (pss_cons (ps_asg (pe_k Gp h1 (by rfl) pass0 (pa_cons (pv 1) pa_nil)) (pg_tup (by rfl) (pgs_cons (pg_name (i := 2) sc_rfs.nd rfl (by walk_at "lv")) (pgs_cons (pg_name (i := 3) sc_rfs.nd rfl (by walk_at "lv")) (pgs_cons (pg_name (i := 4) sc_rfs.nd rfl (by walk_at "lv")) (pgs_cons (pg_name (i := 5) sc_rfs.nd rfl (by walk_at "lv")) (pgs_cons (pg_name (i := 6) sc_rfs.nd rfl (by walk_at "lv")) (pgs_cons (pg_name (i := 7) sc_rfs.nd rfl (by walk_at "lv")) pgs_nil))))))))
        (pss_cons (ps_setLc (i := 8) (own := [("_law_k", 14)]) (g := gName 14) (tt := tYes) rfl sc_rfs.nd rfl rfl (sw_true rfl rfl rfl (by decide +kernel)) (pi_range1 (by rfl) N.range (pa_cons pe_int pa_nil)) (blkOk_by (N := N_rfs) (sc := defScope s_rfs) (by decide +kernel)) (fun _ _ _ _ _ => (pg_name (i := 14) sc_rfs.nd rfl (by walk_at "lv"))) (fun _ _ _ _ _ => pts_nil) (fun _ _ _ _ _ => (pe_cmpR op_eq (pe_k G h2 (by rfl) pass0 (pa_cons (pv 0) (pa_cons pe_int pa_nil))) pe_int (nomark _))))
        (C8.pss_cut (ps_set (i := 9) sc_rfs.nd rfl (by walk_at "lv") (pe_lst (pa_cons (pv 2) (pa_cons (pv 3) (pa_cons (pe_k Ga h3 (by rfl) pass0 (pa_cons (pv 0) (pa_cons (pv 4) pa_nil))) (pa_cons (pv 5) (pa_cons (pe_k Ga h3 (by rfl) pass0 (pa_cons (pv 0) (pa_cons (pv 6) pa_nil))) (pa_cons (pe_k Ga h3 (by rfl) pass0 (pa_cons (pv 0) (pa_cons (pv 7) pa_nil))) pa_nil))))))))
        (C8.pss_cut (ps_if (pt_val (pe_ix ix_list (pv 8) pe_int (fun _ _ => rfl))) (pss_cons (ps_set (i := 10) sc_rfs.nd rfl (by walk_at "lv") (pe_k Go h3 (by rfl) pass0 (pa_cons (pv 0) pa_nil)))
        (pss_cons (ps_set (i := 11) sc_rfs.nd rfl (by walk_at "lv") (pe_op op_add (pe_op op_add (pv 3) pe_int) (pe_k G h2 (by rfl) pass0 (pa_cons (pv 0) (pa_cons pe_int pa_nil)))))
        (pss_cons (ps_set (i := 12) sc_rfs.nd rfl (by walk_at "lv") (pe_tup (pa_cons (pe_tup (pa_cons (pv 2) (pa_cons (pe_op op_sub (pv 2) pe_int) pa_nil))) (pa_cons (pe_tup (pa_cons (pv 10) (pa_cons (pv 3) pa_nil))) (pa_cons (pe_tup (pa_cons (pv 2) (pa_cons pe_non pa_nil))) (pa_cons (pe_tup (pa_cons (pe_un un_neg pe_int) (pa_cons (pv 3) pa_nil))) (pa_cons (pe_tup (pa_cons (pv 2) (pa_cons pe_int pa_nil))) (pa_cons (pe_tup (pa_cons (pv 11) (pa_cons (pv 3) pa_nil))) pa_nil))))))))
        (pss_one (ps_asg (pe_ix ix_tup (pv 12) (pe_k G h2 (by rfl) pass0 (pa_cons (pv 0) (pa_cons pe_int pa_nil))) (fun _ _ => rfl)) (pg_tup (by rfl) (pgs_cons (pg_sub (pv 9) pe_int set_list) (pgs_cons (pg_sub (pv 9) pe_int set_list) pgs_nil)))))))) pss_nil)
        (C8.pss_cut (ps_if (pt_val (pe_ix ix_list (pv 8) pe_int (fun _ _ => rfl))) (pss_one (ps_asg (pe_k Gs hr4 (by rfl) pass0 (pa_cons (pv 0) (pa_cons (pv 4) (pa_cons (pv 2) (pa_cons (pv 3) pa_nil))))) (pg_sub (pv 9) pe_int set_list))) pss_nil)
        (C8.pss_cut (ps_if (pt_val (pe_ix ix_list (pv 8) pe_int (fun _ _ => rfl))) (pss_one (ps_asg (pe_ix ix_tup (pe_tup (pa_cons pe_int (pa_cons (pe_un un_neg pe_int) (pa_cons pe_int (pa_cons (pe_k Go h3 (by rfl) pass0 (pa_cons (pv 0) pa_nil)) (pa_cons (pe_op op_pow pe_int pe_int) pa_nil)))))) (pe_k G h2 (by rfl) pass0 (pa_cons (pv 0) (pa_cons pe_int pa_nil))) (fun _ _ => rfl)) (pg_sub (pv 9) pe_int set_list))) pss_nil)
        (C8.pss_cut (ps_if (pt_val (pe_ix ix_list (pv 8) pe_int (fun _ _ => rfl))) (pss_one (ps_asg (pe_k Gs hr4 (by rfl) pass0 (pa_cons (pv 0) (pa_cons (pv 6) (pa_cons pe_int (pa_cons (pe_op op_sub (pv 5) pe_int) pa_nil))))) (pg_sub (pv 9) pe_int set_list))) pss_nil)
        (C8.pss_cut (ps_if (pt_val (pe_ix ix_list (pv 8) pe_int (fun _ _ => rfl))) (pss_one (ps_asg (pe_k Gs hr4 (by rfl) pass0 (pa_cons (pv 0) (pa_cons (pv 7) (pa_cons pe_int (pa_cons (pe_op op_sub (pv 5) pe_int) pa_nil))))) (pg_sub (pv 9) pe_int set_list))) pss_nil)
        (pss_cons (ps_set (i := 13) sc_rfs.nd rfl (by walk_at "lv") (pe_tup (pa_cons pe_str pa_nil)))
        (pss_cons (ps_for PassesOwn.never rfl (pi_range1 (by rfl) N.range (pa_cons pe_int pa_nil)) (pg_name (i := 14) sc_rfs.nd rfl (by walk_at "lv")) (pss_one (ps_if (PW.pt (pw_and (pt_val (pe_ix ix_list (pv 8) (pv 14) (fun _ _ => rfl))) (pw_and1 (pt_cmpR (op_eqD hr.units) (pv 13) (pe_tup (pa_cons pe_str pa_nil)) (nomark _))))) (pss_one (ps_set (i := 13) sc_rfs.nd rfl (by walk_at "lv") (pe_tup (pa_cons pe_str (pa_cons (pe_ix ix_tup (pe_tup (pa_cons pe_str (pa_cons pe_str (pa_cons pe_str (pa_cons pe_str (pa_cons pe_str pa_nil)))))) (pv 14) (fun _ _ => rfl)) pa_nil))))) pss_nil)))
        (pss_one (ps_ret (pe_cmpR (op_eqD hr.units) (pe_k Gr hr (by rfl) pass0 (pa_cons (pv 9) pa_nil)) (pv 13) (nomark _)))))))))))))), ?_⟩
    refine ⟨_, rfl, t, c', u', d', T, rfl, ta, dr.ok, by omega, by omega, fun q a1 a2 a3 H1 s1 pa na1 na2 na3 => ?_⟩
    refine ⟨q, _, rfl, SqT.of pa.q, rfl, _, _, rfl, _, _, rfl, _, _, rfl, _, _, rfl, _, _, rfl, _, _, rfl, rfl, ?_⟩
    have hh1 := hh.same s1
    dsimp only [gName, tSeq, tAsg]
    refine lc_drawC (m := 5) (i := 14) (k0 := 4) (by decide) ⟨by decide, by decide⟩ hh1 (fun _ => rfl) (fun _ => rfl) fun wr bs H2 bl nw ew h2' b2 => ?_
    match bs, bl with
    | [b0, b1, b2', b3, b4], _ =>
    have p1 := hh.off na1
    have p2 := hh.off na2
    have p3 := hh.off na3
    have e1 := b2 _ _ p1 pa.a
    have e2 := b2 _ _ p2 pa.b
    have e3 := b2 _ _ p3 pa.c
    have bt2 := (But.of s1).trans b2 (p := p)
    have pw := hh1.off nw
    clear b2 pa
    refine ⟨RfI p c t q wr a1 a2 a3 T [b0, b1, b2', b3, b4] H false false false false false, ?_, ?_⟩
    · refine ⟨_, rfl, _, rfl, _, rfl, _, rfl, p, c, a1, _, intsL (cIns T), rfl, h2', e1, p1, tgAll_ints _, shp_ints _, fun xi di H3 hh3 b3x ti _ si => ?_⟩
      refine ⟨_, rfl, _, rfl, _, rfl, p, c, a2, _, intsL (res T.us), rfl, hh3, b3x _ _ p2 e2, p2, tgAll_ints _, shp_ints _, fun xu du H4 hh4 b4x tu _ su => ?_⟩
      refine ⟨_, rfl, _, rfl, p, c, a3, _, intsL (res T.ds), rfl, hh4, b4x _ _ p3 (b3x _ _ p3 e3), p3, tgAll_ints _, shp_ints _, fun xd dd H5 hh5 b5x td _ sd => ?_⟩
      refine ⟨(by show 6 ≤ sizeLine; decide), fun L nL => ?_⟩
      have s5 := same_new (o := .lst [.int T.lo, .int T.hi, xi, .int T.us.length, xu, xd]) (Same.refl H5) nL
      have b35 := b3x.trans (b4x.trans b5x)
      have bt5 := bt2.trans b35
      have off : ∀ {a : Addr} {o : HO}, H5 a = some o → a ≠ L := fun e => ne_of_none e nL
      have w5 := b35 _ _ pw ew
      have c1 := b35 _ _ p1 e1
      have c2 := b35 _ _ p2 e2
      have c3 := b35 _ _ p3 e3
      have Lp := hh5.off nL
      have nL0 : H L = none := by
        cases e : H L with
        | none => rfl
        | some o => rw [bt5 _ _ Lp e] at nL; cases nL
      refine ⟨L, none, none, none, .int T.lo, .int T.hi, xi, .int T.us.length, xu, xd, .int T.lo, .int T.hi, di, .int T.us.length, du, dd, rfl, ⟨hh5.same s5, bt5.trans (But.of s5), s5 _ _ w5, s5 _ _ c1, s5 _ _ c2, s5 _ _ c3, ⟨p1, off c1⟩, ⟨p2, off c2⟩, ⟨p3, off c3⟩, ⟨pw, off w5⟩, nL0, Lp, (hh5.ne nL).2.symm⟩, ?_⟩
      exact ⟨upd_same, ⟨.int _, .int _⟩, ⟨.int _, .int _⟩, TwoR.of (TwoT.fresh nL (Tg.but (b4x.trans b5x) _ _ ti)), ⟨.int _, .int _⟩, TwoR.of (TwoT.fresh nL (Tg.but b5x _ _ tu)), TwoR.of (TwoT.fresh nL td), ⟨len_sq si (by omega), len_sq su (by omega), len_sq sd (by omega)⟩,
        (fun z => nomatch z), (fun _ => ⟨rfl, rfl⟩), (fun z => nomatch z), (fun _ => si), (fun z => nomatch z), (fun _ => rfl), (fun z => nomatch z), (fun _ => su), (fun z => nomatch z), (fun _ => sd)⟩
    clear e1 e2 e3 bt2 pw ew nw h2'
    -- the core
    rintro _ H3 ⟨L, x10, x11, x12, xl, xh, xi, xm, xu, xd, dl0, dh0, di, dm0, du, dd, rfl, bk, pr⟩
    refine ⟨RfI p c t q wr a1 a2 a3 T [b0, b1, b2', b3, b4] H b0 false false false false, ?_, ?_⟩
    · refine ⟨_, rfl, wr, _, _, _, rfl, rfl, SqL.of bk.ew, rfl, _, rfl, ?_⟩
      cases b0 with
      | false => exact iteF ⟨L, x10, x11, x12, xl, xh, xi, xm, xu, xd, dl0, dh0, di, dm0, du, dd, rfl, bk, pr⟩
      | true =>
        refine iteT ⟨_, rfl, p, c, rfl, bk.h, fun xo eo H6 h6 b6 to no od _ => ?_⟩
        refine ⟨_, rfl, _, _, rfl, rfl, _, rfl, p, c, 9, rfl, h6, ⟨by decide, by decide⟩, fun r H7 r0 r1 h7 b7 => ⟨_, _, rfl, rfl, ?_⟩⟩
        refine ⟨_, rfl, _, rfl, _, _, rfl, rfl, (by show 2 ≤ sizeLine; decide), fun t1 n1 => ?_⟩
        refine ⟨_, rfl, _, rfl, (by show 2 ≤ sizeLine; decide), fun t2 n2 => ?_⟩
        refine ⟨_, rfl, (by show 2 ≤ sizeLine; decide), fun t3 n3 => ?_⟩
        refine ⟨_, rfl, _, rfl, (by show 2 ≤ sizeLine; decide), fun t4 n4 => ?_⟩
        refine ⟨_, rfl, (by show 2 ≤ sizeLine; decide), fun t5 n5 => ?_⟩
        refine ⟨_, rfl, _, rfl, (by show 2 ≤ sizeLine; decide), fun t6 n6 => ?_⟩
        refine ⟨(by show 6 ≤ sizeLine; decide), fun o n7 => ?_⟩
        have q1 := same_new (o := .tup [.int T.lo, .int (T.lo - 2)]) (Same.refl H7) n1
        have q12 := same_new (o := .tup [xo, .int T.hi]) (Same.refl _) n2
        have q23 := same_new (o := .tup [.int T.lo, .non]) (Same.refl _) n3
        have q34 := same_new (o := .tup [.int (-20001), .int T.hi]) (Same.refl _) n4
        have q45 := same_new (o := .tup [.int T.lo, .int 20001]) (Same.refl _) n5
        have q56 := same_new (o := .tup [.int (T.hi + 2 + r), .int T.hi]) (Same.refl _) n6
        have q67 := same_new (o := .tup [.ref t1, .ref t2, .ref t3, .ref t4, .ref t5, .ref t6]) (Same.refl _) n7
        have q2 := q1.trans q12
        have q3 := q2.trans q23
        have q4 := q3.trans q34
        have q5 := q4.trans q45
        have q6 := q5.trans q56
        have q7 := q6.trans q67
        have g1 := q67 _ _ (q56 _ _ (q45 _ _ (q34 _ _ (q23 _ _ (q12 _ _ (upd_same (a := t1) (o := .tup [.int T.lo, .int (T.lo - 2)])))))))
        have g2 := q67 _ _ (q56 _ _ (q45 _ _ (q34 _ _ (q23 _ _ (upd_same (a := t2) (o := .tup [xo, .int T.hi]))))))
        have g3 := q67 _ _ (q56 _ _ (q45 _ _ (q34 _ _ (upd_same (a := t3) (o := .tup [.int T.lo, .non])))))
        have g4 := q67 _ _ (q56 _ _ (q45 _ _ (upd_same (a := t4) (o := .tup [.int (-20001), .int T.hi]))))
        have g5 := q67 _ _ (q56 _ _ (upd_same (a := t5) (o := .tup [.int T.lo, .int 20001])))
        have g6 := q67 _ _ (upd_same (a := t6) (o := .tup [.int (T.hi + 2 + r), .int T.hi]))
        have z1 := h7.off n1
        have z2 := h7.off (q1.free n2)
        have z3 := h7.off (q2.free n3)
        have z4 := h7.off (q3.free n4)
        have z5 := h7.off (q4.free n5)
        have z6 := h7.off (q5.free n6)
        have z7 := h7.off (q6.free n7)
        have h8 := h7.same q7
        clear q1 q12 q2 q23 q3 q34 q4 q45 q5 q56 q6 q67 n1 n2 n3 n4 n5 n6 n7
        refine ⟨_, rfl, _, rfl, p, c, 6, rfl, h8, ⟨by decide, by decide⟩, fun r2 H9 r20 r21 h9 b9 => ?_⟩
        obtain ⟨v, w1, w2⟩ := atI_of (xs := [V.ref t1, .ref t2, .ref t3, .ref t4, .ref t5, .ref t6]) r20 r21
        refine ⟨o, _, _, _, rfl, rfl, SqT.of (b9 _ _ z7 upd_same), w2, ?_⟩
        have b69 := b7.trans ((But.of q7).trans b9) (p := p)
        have b39 := b6.trans b69
        have pr9 := pr.but b39 bk.nL.2.1 bk.h.nd
        have bk9 := bk.but b39 h9
        have to9 : TwoT p L H9 xo eo := TwoT.keep (fun b o n _ e => b69 _ _ n e) ⟨to, no _ _ pr.l⟩
        obtain ⟨ti', y0, y1, u0, u1, rfl, et, ty0, ty1, cb⟩ : ∃ ti' y0 y1 u0 u1, v = .ref ti' ∧ H9 ti' = some (.tup [y0, y1]) ∧ TwoT p L H9 y0 u0 ∧ TwoT p L H9 y1 u1 ∧ coreB u0 u1 = false := by
          have i6 : r2.toNat < 6 := by omega
          revert w1
          generalize r2.toNat = i at i6
          have ii : ∀ n : Int, TwoT p L H9 (.int n) (.int n) := fun n => ⟨.int n, .int n⟩
          match i, i6 with
          | 0, _ => intro e; cases e; exact ⟨t1, _, _, _, _, rfl, b9 _ _ z1 g1, ii _, ii _, core_no (by omega)⟩
          | 1, _ => intro e; cases e; exact ⟨t2, _, _, _, _, rfl, b9 _ _ z2 g2, to9, ii _, coreB_l od⟩
          | 2, _ => intro e; cases e; exact ⟨t3, _, _, _, _, rfl, b9 _ _ z3 g3, ii _, ⟨.non, .non⟩, rfl⟩
          | 3, _ => intro e; cases e; exact ⟨t4, _, _, _, _, rfl, b9 _ _ z4 g4, ii _, ii _, core_no (by omega)⟩
          | 4, _ => intro e; cases e; exact ⟨t5, _, _, _, _, rfl, b9 _ _ z5 g5, ii _, ii _, core_no (by omega)⟩
          | 5, _ => intro e; cases e; exact ⟨t6, _, _, _, _, rfl, b9 _ _ z6 g6, ii _, ii _, core_no (by omega)⟩
        refine ⟨ti', _, rfl, SqT.of et, rfl, y0, _, rfl, _, rfl, L, _, 0, 0, rfl, rfl, pr9.l, rfl, y1, _, rfl, _, rfl, L, _, 1, 1, rfl, rfl, upd_same, rfl, rfl, ?_⟩
        rw [upd_upd]
        exact ⟨L, _, _, _, _, _, _, _, _, _, _, _, _, _, _, _, rfl, bk9.put, pr9.set0 h9.nd ty0 ty1 cb⟩
    -- the inside
    rintro _ H3 ⟨L, x10, x11, x12, xl, xh, xi, xm, xu, xd, dl0, dh0, di, dm0, du, dd, rfl, bk, pr⟩
    refine ⟨RfI p c t q wr a1 a2 a3 T [b0, b1, b2', b3, b4] H b0 b1 false false false, ?_, ?_⟩
    · refine ⟨_, rfl, wr, _, _, _, rfl, rfl, SqL.of bk.ew, rfl, _, rfl, ?_⟩
      cases b1 with
      | false => exact iteF ⟨L, x10, x11, x12, xl, xh, xi, xm, xu, xd, dl0, dh0, di, dm0, du, dd, rfl, bk, pr⟩
      | true =>
        refine iteT ⟨_, rfl, _, rfl, _, rfl, _, rfl, p, c, a1, cIns T, T.lo, T.hi, rfl, bk.h, bk.e1, bk.n1.1, by omega, fun x d H6 h6 b6 rx rn ln un => ?_⟩
        have pr6 := pr.but b6 bk.nL.2.1 bk.h.nd
        exact ⟨_, rfl, L, _, 2, 2, rfl, rfl, pr6.l, rfl, L, _, _, _, _, _, _, _, _, _, _, _, _, _, _, _, rfl, (bk.but b6 h6).put, pr6.set1 h6.nd ⟨rx, rn L _ pr.l⟩ ln un⟩
    -- the modulus
    rintro _ H3 ⟨L, x10, x11, x12, xl, xh, xi, xm, xu, xd, dl0, dh0, di, dm0, du, dd, rfl, bk, pr⟩
    refine ⟨RfI p c t q wr a1 a2 a3 T [b0, b1, b2', b3, b4] H b0 b1 b2' false false, ?_, ?_⟩
    · refine ⟨_, rfl, wr, _, _, _, rfl, rfl, SqL.of bk.ew, rfl, _, rfl, ?_⟩
      cases b2' with
      | false => exact iteF ⟨L, x10, x11, x12, xl, xh, xi, xm, xu, xd, dl0, dh0, di, dm0, du, dd, rfl, bk, pr⟩
      | true =>
        refine iteT ⟨_, rfl, _, rfl, p, c, rfl, bk.h, fun xo eo H6 h6 b6 to no od _ => ?_⟩
        refine ⟨_, _, rfl, rfl, ⟨by decide, by decide, by decide⟩, (by show 5 ≤ sizeLine; decide), fun o no' => ?_⟩
        have s6 := same_new (o := .tup [.int 0, .int (-1), .int 10081, xo, .int (10 ^ (20 : Int).toNat)]) (Same.refl H6) no'
        have zo := h6.off no'
        refine ⟨_, rfl, p, c, 5, rfl, h6.same s6, ⟨by decide, by decide⟩, fun r2 H9 r20 r21 h9 b9 => ?_⟩
        obtain ⟨v, w1, w2⟩ := atI_of (xs := [V.int 0, .int (-1), .int 10081, xo, .int (10 ^ (20 : Int).toNat)]) r20 r21
        refine ⟨o, _, _, _, rfl, rfl, SqT.of (b9 _ _ zo upd_same), w2, ?_⟩
        have b69 := (But.of s6).trans b9 (p := p)
        have b39 := b6.trans b69
        have pr9 := pr.but b39 bk.nL.2.1 bk.h.nd
        have to9 : TwoT p L H9 xo eo := TwoT.keep (fun b o n _ e => b69 _ _ n e) ⟨to, no _ _ pr.l⟩
        obtain ⟨u, tv, cb⟩ : ∃ u, TwoT p L H9 v u ∧ wDd 1 10080 u = false := by
          have i6 : r2.toNat < 5 := by omega
          revert w1
          generalize r2.toNat = i at i6
          have ii : ∀ n : Int, TwoT p L H9 (.int n) (.int n) := fun n => ⟨.int n, .int n⟩
          match i, i6 with
          | 0, _ => intro e; cases e; exact ⟨_, ii _, wDd_no (by decide)⟩
          | 1, _ => intro e; cases e; exact ⟨_, ii _, wDd_no (by decide)⟩
          | 2, _ => intro e; cases e; exact ⟨_, ii _, wDd_no (by decide)⟩
          | 3, _ => intro e; cases e; exact ⟨_, to9, by cases eo <;> first | rfl | exact Bool.noConfusion od⟩
          | 4, _ => intro e; cases e; exact ⟨_, ii _, wDd_no (by decide)⟩
        exact ⟨_, rfl, L, _, 3, 3, rfl, rfl, pr9.l, rfl, L, _, _, _, _, _, _, _, _, _, _, _, _, _, _, _, rfl, (bk.but b39 h9).put, pr9.set2 h9.nd tv cb⟩
    -- ups
    rintro _ H3 ⟨L, x10, x11, x12, xl, xh, xi, xm, xu, xd, dl0, dh0, di, dm0, du, dd, rfl, bk, pr⟩
    refine ⟨RfI p c t q wr a1 a2 a3 T [b0, b1, b2', b3, b4] H b0 b1 b2' b3 false, ?_, ?_⟩
    · refine ⟨_, rfl, wr, _, _, _, rfl, rfl, SqL.of bk.ew, rfl, _, rfl, ?_⟩
      cases b3 with
      | false => exact iteF ⟨L, x10, x11, x12, xl, xh, xi, xm, xu, xd, dl0, dh0, di, dm0, du, dd, rfl, bk, pr⟩
      | true =>
        refine iteT ⟨_, rfl, _, rfl, _, rfl, _, _, rfl, rfl, p, c, a2, res T.us, 0, _, rfl, bk.h, bk.e2, bk.n2.1, by omega, fun x d H6 h6 b6 rx rn ln un => ?_⟩
        have pr6 := pr.but b6 bk.nL.2.1 bk.h.nd
        exact ⟨_, rfl, L, _, 4, 4, rfl, rfl, pr6.l, rfl, L, _, _, _, _, _, _, _, _, _, _, _, _, _, _, _, rfl, (bk.but b6 h6).put, pr6.set3 h6.nd ⟨rx, rn L _ pr.l⟩ ln un⟩
    -- downs
    rintro _ H3 ⟨L, x10, x11, x12, xl, xh, xi, xm, xu, xd, dl0, dh0, di, dm0, du, dd, rfl, bk, pr⟩
    refine ⟨RfI p c t q wr a1 a2 a3 T [b0, b1, b2', b3, b4] H b0 b1 b2' b3 b4, ?_, ?_⟩
    · refine ⟨_, rfl, wr, _, _, _, rfl, rfl, SqL.of bk.ew, rfl, _, rfl, ?_⟩
      cases b4 with
      | false => exact iteF ⟨L, x10, x11, x12, xl, xh, xi, xm, xu, xd, dl0, dh0, di, dm0, du, dd, rfl, bk, pr⟩
      | true =>
        refine iteT ⟨_, rfl, _, rfl, _, rfl, _, _, rfl, rfl, p, c, a3, res T.ds, 0, _, rfl, bk.h, bk.e3, bk.n3.1, by omega, fun x d H6 h6 b6 rx rn ln un => ?_⟩
        have pr6 := pr.but b6 bk.nL.2.1 bk.h.nd
        exact ⟨_, rfl, L, _, 5, 5, rfl, rfl, pr6.l, rfl, L, _, _, _, _, _, _, _, _, _, _, _, _, _, _, _, rfl, (bk.but b6 h6).put, pr6.set4 h6.nd ⟨rx, rn L _ pr.l⟩ ln un⟩
    -- what is due
    rintro _ H3 ⟨L, x10, x11, x12, xl, xh, xi, xm, xu, xd, dl0, dh0, di, dm0, du, dd, rfl, bk, pr⟩
    refine ⟨(by show 1 ≤ sizeLine; decide), fun g ng => ?_⟩
    have sg := same_new (o := .tup [.str "good"]) (Same.refl H3) ng
    refine ⟨_, rfl, by decide, by decide, ?_⟩
    refine for_range (lo := 0) (n := 5) (fun i σ H2 => ∃ (x14 : Option V) (g : Addr), σ = [some (.ref p), some (.ref t), some (.int T.lo), some (.int T.hi), some (.ref a1), some (.int T.us.length), some (.ref a2), some (.ref a3), some (.ref wr), some (.ref L), x10, x11, x12, some (.ref g), x14] ∧ Same H3 H2 ∧ H2 g = some (.tup (dueL (dueN ([b0, b1, b2', b3, b4].take i) partWords))))
      ⟨none, g, rfl, sg, upd_same⟩ ?_ ?_
    · rintro i σ H2 hi ⟨x14, g, rfl, s2, eg⟩
      obtain ⟨b, eb⟩ : ∃ b, [b0, b1, b2', b3, b4][i]? = some b := ⟨_, List.getElem?_eq_getElem hi⟩
      obtain ⟨z, ez⟩ : ∃ z, partWords[i]? = some z := ⟨_, List.getElem?_eq_getElem hi⟩
      have step := dueN_step _ _ _ _ _ eb ez
      have i0 : ((0 : Int) + (i : Int)) = (i : Int) := Int.zero_add _
      refine ⟨_, rfl, _, rfl, wr, _, _, .bl b, rfl, rfl, SqL.of (s2 _ _ bk.ew), by rw [i0]; exact atI_nat (by rw [List.getElem?_map, eb]; rfl), _, rfl, ?_⟩
      have same : dueN ([b0, b1, b2', b3, b4].take (i + 1)) partWords = dueN ([b0, b1, b2', b3, b4].take i) partWords → ∃ (x14 : Option V) (g' : Addr), [some (V.ref p), some (.ref t), some (.int T.lo), some (.int T.hi), some (.ref a1), some (.int T.us.length), some (.ref a2), some (.ref a3), some (.ref wr), some (.ref L), x10, x11, x12, some (.ref g), some (.int (0 + (i : Int)))] = [some (.ref p), some (.ref t), some (.int T.lo), some (.int T.hi), some (.ref a1), some (.int T.us.length), some (.ref a2), some (.ref a3), some (.ref wr), some (.ref L), x10, x11, x12, some (.ref g'), x14] ∧ Same H3 H2 ∧ H2 g' = some (.tup (dueL (dueN ([b0, b1, b2', b3, b4].take (i + 1)) partWords))) := fun e => ⟨_, g, rfl, s2, by rw [e]; exact eg⟩
      cases b with
      | false =>
        refine iteF (iteF (same ?_))
        rw [step]
        cases dueN ([b0, b1, b2', b3, b4].take i) partWords <;> rfl
      | true =>
        refine iteT ⟨_, rfl, (by show 1 ≤ sizeLine; decide), fun t1 n1 => ?_⟩
        have s1' := same_new (o := .tup [.str "good"]) (Same.refl H2) n1
        refine ⟨_, _, due_dp (s1' _ _ eg), .tup (SqT.of upd_same) (.cons (.str _) .nil), due_shp, by kernel_rfl, _, rfl, ?_⟩
        rw [due_good]
        cases ed : dueN ([b0, b1, b2', b3, b4].take i) partWords with
        | some y =>
          rw [ed] at step eg
          exact iteF ⟨_, g, rfl, s2.trans s1', by rw [step]; exact s1' _ _ eg⟩
        | none =>
          rw [ed] at step
          refine iteT ⟨(by show 5 ≤ sizeLine; decide), fun t2 n2 => ?_⟩
          have s2' := same_new (o := .tup [.str "core", .str "inside", .str "modulus", .str "ups", .str "downs"]) (Same.refl _) n2
          refine ⟨_, rfl, t2, _, _, .str z, rfl, rfl, SqT.of upd_same, by rw [i0]; exact atI_nat (show (partWords.map V.str)[i]? = some (V.str z) from by rw [List.getElem?_map, ez]; rfl), (by show 2 ≤ sizeLine; decide), fun t3 n3 => ?_⟩
          exact ⟨_, t3, rfl, s2.trans (s1'.trans (s2'.trans (same_new (Same.refl _) n3))), by rw [upd_same, step]; rfl⟩
    · rintro σ H2 ⟨x14, g, rfl, s2, eg⟩
      have pr2 := pr.keep (fun b o _ _ e => s2 b o e) bk.h.nd (s2 _ _ pr.l)
      have fin : ∀ (q : Addr) H', Same H2 H' → H' q = some (.tup (dueL (dueN [b0, b1, b2', b3, b4] partWords))) → tOp (rEqD K) (tC (.ref q)) (tVar 13) [some (V.ref p), some (.ref t), some (.int T.lo), some (.int T.hi), some (.ref a1), some (.int T.us.length), some (.ref a2), some (.ref a3), some (.ref wr), some (.ref L), x10, x11, x12, some (.ref g), x14] H' Q := fun q H' s' e => by
        refine ⟨_, rfl, _, _, due_dp e, due_dp (s' _ _ eg), due_shp, due_shp, ?_⟩
        have er := due_refl (dueN [b0, b1, b2', b3, b4] partWords)
        show Q (.bl (PyData.eqv (dueD (dueN [b0, b1, b2', b3, b4] partWords)) (dueD (dueN [b0, b1, b2', b3, b4] partWords)))) H'
        rw [er]
        exact k H' ((bk.h.same s2).same s') ((bk.b.trans (But.of s2)).trans (But.of s'))
      refine ⟨_, rfl, p, L, xl, xh, xi, xm, xu, xd, dl0, dh0, di, dm0, du, dd, rfl, pr2.l, pr2.tl.1, pr2.th.1, pr2.ti.1, pr2.tm.1, pr2.tu.1, pr2.td.1, pr2.n, fun K' => (pr2.ends dr fo l1 l2 K').mono (fun z hz q H' s' e => ?_) (fun lo hi m hg => ⟨hg.2, fun q H' s' e => ?_⟩)⟩
      · exact fin q H' s' (by rw [hz]; exact e)
      · exact fin q H' s' (by rw [hg.1]; exact e)
end
end My
set_option Elab.async false
set_option linter.all false
set_option maxRecDepth 100000
set_option maxHeartbeats 8000000
namespace My
open PySem PySem.Spec PyProof.Rows L2
local macro_rules | `(tactic| walk_at "lv") => `(tactic| first | exact Or.inl rfl | exact Or.inr rfl)
/-! ### where a form lies -/
theorem form_near {T : Tl} (ok : T.Ok) {lo hi : Int} {d : Nat} (fo : IsForm T.has T.U T.D lo hi d) : (lo = 0 ∧ hi = -1) ∨ (T.lo - (T.m : Int) < lo ∧ hi ≤ T.hi) := by
  rcases fo.ends with ⟨_, _, h1, h2⟩ | ⟨h1, h2, h3, h4, h5⟩
  · exact .inl ⟨h1, h2⟩
  · have a1 : hi ≤ T.hi := by
      rcases Int.lt_or_le T.hi hi with q | q
      · exact absurd (Tl.above q) h1
      · exact q
    have a2 : T.lo - (T.m : Int) ≤ hi := by
      rcases Int.lt_or_le hi (T.lo - (T.m : Int)) with q | q
      · have hm : (0 : Int) ≤ (T.m : Int) := by omega
        exact absurd (Tl.all_above ok (Int.le_refl _) (fun n n1 n2 => h2 n (by omega)) hi (by omega)) h1
      · exact q
    refine .inr ⟨?_, a1⟩
    rcases h5 with h5 | h5
    · omega
    · rcases Int.lt_or_le lo T.lo with q | q
      · exact absurd (Tl.below q) h5
      · have := ok.pos
        unfold Tl.m
        omega
theorem least_le {T : Tl} (ok : T.Ok) {d : Nat} (h : Least T.U T.D d) : d ≤ T.us.length := by
  have := h.dvd ok.pos ok.pu ok.pd
  exact Nat.le_of_dvd ok.pos (Nat.dvd_of_mod_eq_zero this)
theorem few_mem {ns : List Int} (h : ∀ n ∈ ns, -900000 ≤ n ∧ n ≤ 900000) : Few ns := fun n hn => by
  have := h n hn
  omega
/-- a drawn telling's form in few digits -/
structure FewForm (T : Tl) (lo hi : Int) (d : Nat) : Prop where
  e : Few [lo, hi, (d : Int)]
  i : Few (insOf T lo hi)
  u : Few (resOf T.U d)
  dw : Few (resOf T.D d)
  li : (insOf T lo hi).length ≤ 20
  lu : (resOf T.U d).length ≤ 12
  ld : (resOf T.D d).length ≤ 12
theorem few_form {T : Tl} (dr : Drawn T) {lo hi : Int} {d : Nat} (fo : IsForm T.has T.U T.D lo hi d) (l1 : -20000 ≤ lo) (l2 : hi ≤ 20000) : FewForm T lo hi d := by
  have dl := least_le dr.ok fo.least
  have dm := dr.m
  have dc := dr.c
  have nr := form_near dr.ok fo
  have sz := fo.size
  have hh : T.hi = T.lo + T.cs.length - 1 := rfl
  have hm : T.m = T.us.length := rfl
  have w : (hi + 1 - lo).toNat ≤ 20 := by omega
  refine ⟨few_mem fun n hn => ?_, few_mem fun n hn => ?_, few_mem fun n hn => ?_, few_mem fun n hn => ?_, Nat.le_trans (fil_len _ _ _) w, Nat.le_trans (fil_len _ _ _) (by omega), Nat.le_trans (fil_len _ _ _) (by omega)⟩
  · simp only [List.mem_cons, List.not_mem_nil, or_false] at hn
    rcases hn with rfl | rfl | rfl <;> omega
  · have := (mem_fil.mp hn).1
    omega
  · have := (mem_fil.mp hn).1
    omega
  · have := (mem_fil.mp hn).1
    omega
/-- the parts of a drawn telling in few digits -/
structure FewPart (T : Tl) (ins us ds : List Int) : Prop where
  e : Few [T.lo, T.hi, (T.us.length : Int)]
  i : Few ins
  u : Few us
  dw : Few ds
  li : ins.length ≤ 8
  lu : us.length ≤ 12
  ld : ds.length ≤ 12
theorem few_part {T : Tl} (dr : Drawn T) {ins us ds : List Int} (p1 : ins.Perm (cIns T)) (p2 : us.Perm (res T.us)) (p3 : ds.Perm (res T.ds)) : FewPart T ins us ds := by
  have dm := dr.m
  have dc := dr.c
  have dl : T.ds.length ≤ 12 := by rw [dr.ok.len]; exact dm
  have hl := dr.lo
  have hi := dr.hi
  have lens := parts_lens (T := T)
  have hh : T.hi = T.lo + T.cs.length - 1 := rfl
  have told := told_parts dr.ok p1 p2 p3
  refine ⟨few_mem fun n hn => ?_, few_mem fun n hn => ?_, few_mem fun n hn => ?_, few_mem fun n hn => ?_, by rw [p1.length_eq]; omega, by rw [p2.length_eq]; omega, by rw [p3.length_eq]; omega⟩
  · simp only [List.mem_cons, List.not_mem_nil, or_false] at hn
    rcases hn with rfl | rfl | rfl <;> omega
  · have := told.i n hn
    omega
  · have := told.u n hn
    omega
  · have := told.d n hn
    omega
/-- what make_lot says of a drawn telling's parts -/
theorem make_good {K : PySem.W.Frag} {T : Tl} (dr : Drawn T) {ins us ds : List Int} (p1 : ins.Perm (cIns T)) (p2 : us.Perm (res T.us)) (p3 : ds.Perm (res T.ds)) {bad : Str → Prop} {good : Int → Int → Int → Prop} (h : good T.lo T.hi T.us.length) :
    MakeEnd K bad good (.int T.lo) (.int T.hi) (intsD ins) (.int T.us.length) (intsD us) (intsD ds) := by
  have told := told_parts dr.ok p1 p2 p3
  have hh : T.hi = T.lo + T.cs.length - 1 := rfl
  have dm := dr.m
  have pos := dr.ok.pos
  have cg : coreB (.int T.lo) (.int T.hi) = true := by
    show (decide (-20000 ≤ T.lo) && (decide (T.hi ≤ 20000) && decide (T.lo ≤ T.hi + 1))) = true
    rw [decide_eq_true dr.lo, decide_eq_true dr.hi, decide_eq_true (by omega)]
    rfl
  refine ⟨fun hc => (by rw [cg] at hc; cases hc), fun lo hi el eh _ => ?_⟩
  cases el
  cases eh
  have g1 : unlD T.lo T.hi (intsD ins) = true := unl_good told.i (p1.symm.nodup (cIns_nodup T)) (.inl rfl)
  refine ⟨fun hc => (by rw [g1] at hc; cases hc), fun _ => ?_⟩
  have g2 : wDd 1 10080 (.int T.us.length) = true := wDd_int ⟨by omega, by omega⟩
  refine ⟨fun hc => (by rw [g2] at hc; cases hc), fun m em _ _ => ?_⟩
  cases em
  have g3 : unlD 0 ((T.us.length : Int) - 1) (intsD us) = true := unl_good told.u (p2.symm.nodup (fil_nodup _ _ _)) (.inl rfl)
  refine ⟨fun hc => (by rw [g3] at hc; cases hc), fun _ => ?_⟩
  have g4 : unlD 0 ((T.us.length : Int) - 1) (intsD ds) = true := unl_good told.d (p3.symm.nodup (fil_nodup _ _ _)) (.inl rfl)
  exact ⟨fun hc => (by rw [g4] at hc; cases hc), fun _ => h⟩
theorem make_far {K : PySem.W.Frag} {T : Tl} (dr : Drawn T) {ins us ds : List Int} (p1 : ins.Perm (cIns T)) {bad : Str → Prop} {good : Int → Int → Int → Prop} (h : bad "modulus") :
    MakeEnd K bad good (.int T.lo) (.int T.hi) (intsD ins) (.int 10081) (intsD us) (intsD ds) := by
  have told := told_parts dr.ok p1 (List.Perm.refl (res T.us)) (List.Perm.refl (res T.ds))
  have hh : T.hi = T.lo + T.cs.length - 1 := rfl
  have cg : coreB (.int T.lo) (.int T.hi) = true := by
    show (decide (-20000 ≤ T.lo) && (decide (T.hi ≤ 20000) && decide (T.lo ≤ T.hi + 1))) = true
    rw [decide_eq_true dr.lo, decide_eq_true dr.hi, decide_eq_true (by omega)]
    rfl
  refine ⟨fun hc => (by rw [cg] at hc; cases hc), fun lo hi el eh _ => ?_⟩
  cases el
  cases eh
  have g1 : unlD T.lo T.hi (intsD ins) = true := unl_good told.i (p1.symm.nodup (cIns_nodup T)) (.inl rfl)
  refine ⟨fun hc => (by rw [g1] at hc; cases hc), fun _ => ?_⟩
  refine ⟨fun _ => h, fun m em h1 h2 => ?_⟩
  cases em
  omega
/-! ### the words of a line -/
theorem shp_low {u : List Nat} (h : ∀ c ∈ u, c < 1000) : SeqAt.shaped (.str (SX.S u)) = true := by
  refine Bool.and_eq_true_iff.mpr ⟨?_, rfl⟩
  show (SX.S u).cps.all (· < 0x110000) = true
  rw [← Array.all_toList]
  exact List.all_eq_true.mpr fun c hc => decide_eq_true (by have := h c hc; omega)
/-- a word without a blank -/
def WordOk (u : List Nat) : Prop := (∀ c ∈ u, c ≠ 32 ∧ c < 1000) ∧ u.length ≤ 8
theorem num_word {n : Int} (h : n.natAbs < 10 ^ 6) : WordOk (wNum n) := by
  have h1 : plainB (wNum n) = true := pf_plain (by rw [pf_num h]; exact fun z => nomatch z)
  have h2 := (plainB_parts h1).2.2
  have ln := wNum_len h
  refine ⟨fun c hc => ?_, by omega⟩
  rcases dgW_or (wNum n) with e | e
  · rw [e] at hc
    rcases List.mem_cons.mp hc with rfl | q
    · exact ⟨by decide, by decide⟩
    · have := h2 c q
      omega
  · rw [e] at h2
    have := h2 c hc
    omega
def wordB (u : List Nat) : Bool := u.all (fun c => decide (c ≠ 32) && decide (c < 1000)) && decide (u.length ≤ 8)
theorem word_of {u : List Nat} (h : wordB u = true) : WordOk u := by
  obtain ⟨h1, h2⟩ := and_ok h
  refine ⟨fun c hc => ?_, of_decide_eq_true h2⟩
  obtain ⟨a, b⟩ := and_ok (List.all_eq_true.mp h1 c hc)
  exact ⟨of_decide_eq_true a, of_decide_eq_true b⟩
/-- words that may stand in a line -/
def LineOk (ws : List (List Nat)) : Prop := ws ≠ [] ∧ ws.length ≤ 200 ∧ ∀ u ∈ ws, WordOk u
theorem nums_ok {ns : List Int} (h : Few ns) : ∀ u ∈ ns.map wNum, WordOk u := fun u hu => by
  obtain ⟨n, hn, rfl⟩ := List.mem_map.mp hu
  exact num_word (h n hn)
theorem lot_ok {lo hi m : Int} {ins us ds : List Int} (h : Few [lo, hi, m]) (h1 : Few ins) (h2 : Few us) (h3 : Few ds) (l1 : ins.length ≤ 40) (l2 : us.length ≤ 40) (l3 : ds.length ≤ 40) : LineOk (lotWs lo hi ins m us ds) := by
  refine ⟨fun z => ?_, by rw [lotWs_many]; omega, fun u hu => ?_⟩
  · have := congrArg List.length z
    rw [lotWs_many] at this
    simp at this
  · unfold lotWs at hu
    simp only [List.mem_append, List.mem_cons, List.not_mem_nil, or_false] at hu
    have e := nums_ok h
    rcases hu with (rfl | rfl | rfl | rfl) | hu | rfl | hu | rfl | hu
    · exact e _ (by simp)
    · exact e _ (by simp)
    · exact e _ (by simp)
    · exact word_of (by decide)
    · exact nums_ok h1 u hu
    · exact word_of (by decide)
    · exact nums_ok h2 u hu
    · exact word_of (by decide)
    · exact nums_ok h3 u hu
theorem line_len : ∀ {ws : List (List Nat)}, (∀ u ∈ ws, u.length ≤ 8) → (lineW ws).length ≤ 9 * ws.length
  | [], _ => Nat.zero_le _
  | [u], h => by
    have := h u List.mem_cons_self
    show u.length ≤ _
    rw [List.length_singleton]
    omega
  | u :: v :: r, h => by
    have h1 := h u List.mem_cons_self
    have ih := line_len (ws := v :: r) fun x hx => h x (List.mem_cons_of_mem _ hx)
    show (u ++ ([32] ++ lineW (v :: r))).length ≤ _
    rw [List.length_append, List.length_append, List.length_cons, List.length_cons] at *
    simp only [List.length_nil, List.length_cons] at *
    omega
theorem line_low : ∀ {ws : List (List Nat)}, (∀ u ∈ ws, WordOk u) → ∀ c ∈ lineW ws, c < 1000
  | [], _, c, hc => by cases hc
  | [u], h, c, hc => ((h u List.mem_cons_self).1 c hc).2
  | u :: v :: r, h, c, hc => by
    have ih := line_low (ws := v :: r) fun x hx => h x (List.mem_cons_of_mem _ hx)
    have hc : c ∈ u ++ ([32] ++ lineW (v :: r)) := hc
    rcases List.mem_append.mp hc with q | q
    · exact ((h u List.mem_cons_self).1 c q).2
    · rcases List.mem_append.mp q with q | q
      · have := List.mem_singleton.mp q
        omega
      · exact ih c q
theorem LineOk.shp {ws : List (List Nat)} (h : LineOk ws) : SeqAt.shaped (.str (SX.S (lineW ws))) = true := shp_low (line_low h.2.2)
theorem LineOk.len {ws : List (List Nat)} (h : LineOk ws) : (lineW ws).length ≤ 1800 := by
  have := line_len fun u hu => (h.2.2 u hu).2
  have := h.2.1
  omega
theorem LineOk.text {ws : List (List Nat)} (h : LineOk ws) : TextIs (.str (SX.S (lineW ws))) (some ws) :=
  text_of (fun u hu hm => ((h.2.2 u hu).1 32 hm).1 rfl) h.1 (by have := h.len; omega)
theorem LineOk.ok {ws : List (List Nat)} (h : LineOk ws) : ∀ vs, some ws = some vs → vs.length ≤ 60000 ∧ OkWs vs := fun vs e => by
  cases e
  have := h.2.1
  exact ⟨by omega, fun u hu => ⟨by have := (h.2.2 u hu).2; omega, shp_low fun c hc => ((h.2.2 u hu).1 c hc).2⟩⟩
end My
set_option Elab.async false
set_option linter.all false
set_option maxRecDepth 100000
set_option maxHeartbeats 8000000
namespace My
open PySem PySem.Spec PyProof.Rows L2
local macro_rules | `(tactic| walk_at "lv") => `(tactic| first | exact Or.inl rfl | exact Or.inr rfl)
/-! ### the lines of a law: what is told and what is due -/
section
variable {K : PySem.W.Frag} {H : Hp} {q : Addr} {Q : VK} {σ : L2.St}
def textD : PyData := .tuple [.str "text", .int 1, .str "line"]
theorem dp_text (e : H q = some (.tup [.str "text", .int 1, .str "line"])) : Dp K H (.ref q) textD := .tup (SqT.of e) (.cons (.str _) (.cons (.int _) (.cons (.str _) .nil)))
theorem eq_text (e : H q = some (.tup [.str "text", .int 1, .str "line"])) (k : ∀ H', Same H H' → Q (.bl true) H') :
    tTup (tCons (tC (.str "text")) (tCons (tC (.int 1)) (tCons (tC (.str "line")) tNil))) σ H fun y H2 => rEqD K (.ref q) y H2 Q := by
  refine ⟨(by show 3 ≤ sizeLine; decide), fun t n => ?_⟩
  have s := same_new (o := .tup [.str "text", .int 1, .str "line"]) (Same.refl H) n
  refine ⟨_, _, dp_text (s _ _ e), dp_text upd_same, by kernel_rfl, by kernel_rfl, ?_⟩
  rw [show PyData.eqv textD textD = true from by kernel_rfl]
  exact k _ s
theorem ne_text (e : H q = some (.tup [.str "text", .int 1, .str "line"])) (k : ∀ H', Same H H' → Q (.bl false) H') :
    tTup (tCons (tC (.str "text")) (tCons (tC (.int 1)) (tCons (tC (.str "line")) tNil))) σ H fun y H2 => rNeD K (.ref q) y H2 Q := by
  refine ⟨(by show 3 ≤ sizeLine; decide), fun t n => ?_⟩
  have s := same_new (o := .tup [.str "text", .int 1, .str "line"]) (Same.refl H) n
  refine ⟨_, _, dp_text (s _ _ e), dp_text upd_same, by kernel_rfl, by kernel_rfl, ?_⟩
  rw [show PyData.eqv textD textD = true from by kernel_rfl]
  exact k _ s
def lotD : PyData := .tuple [.str "lot", .str "modulus"]
theorem dp_lot (e : H q = some (.tup [.str "lot", .str "modulus"])) : Dp K H (.ref q) lotD := .tup (SqT.of e) (.cons (.str _) (.cons (.str _) .nil))
theorem eq_lot (e : H q = some (.tup [.str "lot", .str "modulus"])) (k : ∀ H', Same H H' → Q (.bl true) H') :
    tTup (tCons (tC (.str "lot")) (tCons (tC (.str "modulus")) tNil)) σ H fun y H2 => rEqD K (.ref q) y H2 Q := by
  refine ⟨(by show 2 ≤ sizeLine; decide), fun t n => ?_⟩
  have s := same_new (o := .tup [.str "lot", .str "modulus"]) (Same.refl H) n
  refine ⟨_, _, dp_lot (s _ _ e), dp_lot upd_same, by kernel_rfl, by kernel_rfl, ?_⟩
  rw [show PyData.eqv lotD lotD = true from by kernel_rfl]
  exact k _ s
end
/-! ### the odd words -/
def oddWs : List (List Nat) := [[], [120], [43, 49], [48, 49], [45, 48], [49, 46, 48], [49, 50, 51, 52, 53, 54, 55], [45, 45, 49], wInside]
def oddVs : List V := [.str "", .str "x", .str "+1", .str "01", .str "-0", .str "1.0", .str "1234567", .str "--1", .str "inside"]
theorem odd_vs : oddVs = oddWs.map wordV := by
  show [V.str "", .str "x", .str "+1", .str "01", .str "-0", .str "1.0", .str "1234567", .str "--1", .str "inside"] = _
  kernel_rfl
def oddB (u : List Nat) : Bool := !plainB u && (decide (u ≠ wUps) && (decide (u ≠ wDowns) && wordB u))
theorem odd_at {v : V} {i : Nat} (h : oddVs[i]? = some v) : ∃ u, v = wordV u ∧ OddW u ∧ WordOk u := by
  rw [odd_vs, List.getElem?_map] at h
  cases e : oddWs[i]? with
  | none => rw [e] at h; cases h
  | some u =>
    rw [e] at h
    refine ⟨u, (Option.some.inj h).symm, ?_⟩
    have hm : u ∈ oddWs := List.mem_of_getElem? e
    have hb : oddB u = true := List.all_eq_true.mp (show oddWs.all oddB = true from by decide) u hm
    obtain ⟨h1, h2⟩ := and_ok hb
    obtain ⟨h2, h3⟩ := and_ok h2
    obtain ⟨h3, h4⟩ := and_ok h3
    exact ⟨⟨by simpa using h1, of_decide_eq_true h2, of_decide_eq_true h3⟩, word_of h4⟩
theorem eq_ins (u : List Nat) : decide (wordV u = V.str "inside") = decide (u = wInside) := by
  rw [s_inside]
  by_cases h : u = wInside
  · subst h
    rw [decide_eq_true (p := wInside = wInside) rfl]
    exact decide_eq_true rfl
  · rw [decide_eq_false h]
    exact decide_eq_false fun z => h (SX.S_inj (V.str.inj z))
def rJoin (K : PySem.W.Frag) : V → List V → Hp → VK → Prop := fun x xs H Q => ∃ a p, ∃ ys : List Str, x = .str a ∧ xs = [.ref p] ∧ (SqL K H p (ys.map V.str) ∨ SqT K H p (ys.map V.str)) ∧ (ys.map (·.length)).sum + ys.length * a.length ≤ 16777216 ∧ Q (.str (Txt.join a ys)) H
theorem pe_joinR {X : L2.Cx} {o e : Expr} {to te : TE} {apos pos : Pos} (ho : PE X o to) (he : PE X e te) (hs : starEach [e] X.env = [(false, eval e X.env)] := by rfl) (hbase : attributeBase o "join" X.env (eval o X.env) = eval o X.env := by rfl) (hline : (apos.endLine == pos.line) = true := by rfl) :
    PE X (.Call (.Attribute o "join" apos) [e] [] pos) (tM1 (rJoin X.K) to te) := pe_join ho he hs hbase hline
theorem join_rd {K : PySem.W.Frag} {H : Hp} {a : Addr} {ws : List (List Nat)} {Q : VK} (ok : LineOk ws) (e : H a = some (.lst (ws.map wordV))) (k : Q (.str (SX.S (lineW ws))) H) : rJoin K (.str (" " : Str)) [.ref a] H Q := by
  refine ⟨_, a, ws.map SX.S, rfl, rfl, .inl (SqL.of (by rw [List.map_map]; exact e)), ?_, ?_⟩
  · have := sum_le (m := 8) fun u hu => (ok.2.2 u hu).2
    have l := ok.2.1
    have e1 : (" " : Str).length = 1 := by rw [s_sp, SX.S_len]; rfl
    rw [e1, List.length_map]
    omega
  · rw [join_line]
    exact k
theorem line_snoc {u : List Nat} : ∀ {ws : List (List Nat)}, ws ≠ [] → lineW (ws ++ [u]) = lineW ws ++ 32 :: u
  | [], h => absurd rfl h
  | [w], _ => rfl
  | w :: v :: r, _ => by
    have ih := line_snoc (u := u) (ws := v :: r) (by simp)
    show w ++ ([32] ++ lineW (v :: r ++ [u])) = (w ++ ([32] ++ lineW (v :: r))) ++ 32 :: u
    rw [ih]
    simp
theorem line_cons {u : List Nat} {ws : List (List Nat)} (h : ws ≠ []) : lineW (u :: ws) = u ++ 32 :: lineW ws := by
  cases ws with
  | nil => exact absurd rfl h
  | cons v r => rfl
theorem line_last {c : List Nat} : ∀ {ws : List (List Nat)} {u : List Nat}, lineW (ws ++ [u ++ c]) = lineW (ws ++ [u]) ++ c
  | [], _ => rfl
  | [w], u => by
    show w ++ ([32] ++ (u ++ c)) = (w ++ ([32] ++ u)) ++ c
    simp
  | w :: v :: r, u => by
    have ih := line_last (c := c) (ws := v :: r) (u := u)
    show w ++ ([32] ++ lineW (v :: r ++ [u ++ c])) = (w ++ ([32] ++ lineW (v :: r ++ [u]))) ++ c
    rw [ih]
    simp
theorem SX_app (a b : List Nat) : (SX.S a ++ SX.S b : Str) = SX.S (a ++ b) := by
  show (⟨a.toArray ++ b.toArray⟩ : Str) = ⟨(a ++ b).toArray⟩
  rw [List.append_toArray]
theorem s_nl : ("
" : Str) = SX.S [10] := by kernel_rfl
def spoiltVs (ws : List (List Nat)) (W : Addr) : List V := [.str (SX.S (lineW ws) ++ " "), .str ((" " : Str) ++ SX.S (lineW ws)), .str (SX.S (lineW ws) ++ "
"), .int 7, .ref W]
theorem lineOk_app {ws : List (List Nat)} {u : List Nat} (h : LineOk ws) (l : ws.length ≤ 100) (w : WordOk u) : LineOk (ws ++ [u]) := by
  refine ⟨by simp, by rw [List.length_append, List.length_singleton]; omega, fun x hx => ?_⟩
  rcases List.mem_append.mp hx with q | q
  · exact h.2.2 x q
  · rw [List.mem_singleton.mp q]
    exact w
theorem tgAll_words {p : Addr} {H : Hp} : ∀ {ws : List (List Nat)}, OkWs ws → TgAll p H (ws.map wordV) (ws.map fun u => PyData.str (SX.S u))
  | [], _ => .nil
  | u :: r, h => .cons (.str _ (h u List.mem_cons_self).2) (tgAll_words fun x hx => h x (List.mem_cons_of_mem _ hx))
theorem spoilt_at {p W : Addr} {H : Hp} {ws : List (List Nat)} {v : V} {i : Nat} (h : LineOk ws) (l : 5 ≤ ws.length ∧ ws.length ≤ 100) (w7 : ∀ u ∈ ws, u.length ≤ 7) (eW : H W = some (.lst (ws.map wordV))) (Wp : W ≠ p) (e : (spoiltVs ws W)[i]? = some v) :
    ∃ d o, Tg p H v d ∧ TextIs d o ∧ (∀ ws, o = some ws → ws.length ≤ 60000 ∧ OkWs ws) ∧ descO o = none := by
  have line : ∀ vs : List (List Nat), LineOk vs → descOf vs = none → ∃ d o, Tg p H (.str (SX.S (lineW vs))) d ∧ TextIs d o ∧ (∀ ws, o = some ws → ws.length ≤ 60000 ∧ OkWs ws) ∧ descO o = none := fun vs ok no => ⟨_, _, .str _ ok.shp, ok.text, ok.ok, no⟩
  match i with
  | 0 =>
    cases e
    have q := line (ws ++ [[]]) (lineOk_app h l.2 (word_of (by decide))) (descOf_bad (i := ws.length) (by rw [List.getElem?_append_right (Nat.le_refl _), Nat.sub_self]; rfl) (by omega) odd_nil)
    rw [line_snoc h.1] at q
    rw [s_sp, SX_app]
    exact q
  | 1 =>
    cases e
    have q := line ([] :: ws) ⟨by simp, by rw [List.length_cons]; omega, fun x hx => by
      rcases List.mem_cons.mp hx with rfl | q
      · exact word_of (by decide)
      · exact h.2.2 x q⟩ (descOf_bad (i := 0) rfl (by decide) odd_nil)
    rw [line_cons h.1] at q
    rw [s_sp, SX_app]
    exact q
  | 2 =>
    cases e
    have ew := List.dropLast_concat_getLast h.1
    generalize ws.dropLast = r at ew
    generalize ws.getLast h.1 = u at ew
    subst ew
    have hu : u ∈ r ++ [u] := List.mem_append_right _ List.mem_cons_self
    have u7 := w7 u hu
    have q := line (r ++ [u ++ [10]]) ⟨by simp, by have := h.2.1; rw [List.length_append, List.length_singleton] at *; omega, fun x hx => by
      rcases List.mem_append.mp hx with q | q
      · exact h.2.2 x (List.mem_append_left _ q)
      · rw [List.mem_singleton.mp q]
        refine ⟨fun c hc => ?_, by rw [List.length_append, List.length_singleton]; omega⟩
        rcases List.mem_append.mp hc with q | q
        · exact (h.2.2 u hu).1 c q
        · rw [List.mem_singleton.mp q]
          exact ⟨by decide, by decide⟩⟩ (descOf_bad (i := r.length) (by rw [List.getElem?_append_right (Nat.le_refl _), Nat.sub_self]; rfl) (by have := l.1; rw [List.length_append, List.length_singleton] at this; omega) (odd_nl u))
    rw [line_last] at q
    rw [s_nl, SX_app]
    exact q
  | 3 =>
    cases e
    exact ⟨_, none, .int 7, .inr ⟨rfl, rfl⟩, (fun _ z => nomatch z), rfl⟩
  | 4 =>
    cases e
    have ok := (h.ok ws rfl).2
    exact ⟨_, none, .lst eW Wp (tgAll_words ok) (words_shp ok), .inr ⟨rfl, rfl⟩, (fun _ z => nomatch z), rfl⟩
  | i + 5 => cases e
section
variable {P : Program} {w : World} {K : PySem.W.Frag} {mg : Str → Option Value} {base : Heap}
/-- a line of which nothing can be made -/
theorem read_none {p c : Addr} {H : Hp} {v : V} {d : PyData} {o : Option (List (List Nat))} {Q : VK} {E : XK} (hh : HandC H p c) (tv : Tg p H v d) (tx : TextIs d o) (wo : ∀ ws, o = some ws → ws.length ≤ 60000 ∧ OkWs ws) (no : descO o = none)
    (k : TextEnd H Q) : spLrd K [v] H Q E := by
  obtain ⟨_, _, _, _, hp, _⟩ := hh
  exact ⟨p, _, v, d, o, rfl, hp, tv, tx, wo, by rw [no]; exact k⟩
theorem read_line {p c : Addr} {H : Hp} {ws : List (List Nat)} {Q : VK} {E : XK} (hh : HandC H p c) (ok : LineOk ws) (k : ReadEnd K H Q (descOf ws)) : spLrd K [.str (SX.S (lineW ws))] H Q E := by
  obtain ⟨_, _, _, _, hp, _⟩ := hh
  exact ⟨p, _, _, _, _, rfl, hp, .str _ ok.shp, ok.text, ok.ok, k⟩
theorem read_bad {p c : Addr} {H : Hp} {ws : List (List Nat)} {Q : VK} {E : XK} (hh : HandC H p c) (ok : LineOk ws) (no : descOf ws = none) (k : TextEnd H Q) : spLrd K [.str (SX.S (lineW ws))] H Q E :=
  read_line hh ok (by rw [no]; exact k)
/-! ### _law_lines_hold -/
def spLh : Sp := fun vs H Q _ => ∃ (p c t c' u' d' : Addr) (T : Tl) (fl fh : Int) (fm : Nat), vs = [.ref p, .ref t] ∧ HandC H p c ∧ TellAt H t T c' u' d' ∧ Drawn T ∧ IsForm T.has T.U T.D fl fh fm ∧ -20000 ≤ fl ∧ fh ≤ 20000 ∧ ∀ H', HandC H' p c → But p H H' → Q (.bl true) H'
theorem near_of {T : Tl} (dr : Drawn T) : T.Near := by
  have h1 := dr.m
  have h2 := dr.c
  have h3 := dr.lo
  have h4 := dr.hi
  have hh : T.hi = T.lo + T.cs.length - 1 := rfl
  exact ⟨dr.ok, by omega, by omega, by omega, by omega⟩
abbrev s_lh : Stmt := top 75
abbrev N_lh : List Str := ["_law_hand_here", "_law_telling", "_law_low", "_law_high", "_law_inside", "_law_modulus", "_law_ups", "_law_downs", "_law_form_here", "_law_parts_here", "_law_words", "_law_whole_here", "_law_told", "_law_at", "_law_odd", "_law_way", "_law_text", "_law_new"]
theorem sc_lh : FnScope N_lh ["_law_hand_here", "_law_telling"] (defScope s_lh) := ⟨rfl, rfl, rfl, by decide +kernel, rfl, by decide +kernel, by decide +kernel⟩
theorem kp_lh (F : At K mg "_law_lines_hold" s_lh) (N : Nb mg) (Gp : Keeps CX0 P w K mg base "_law_parts" 1 ["_law_telling"] spParts) (Gf : Keeps CX0 P w K mg base "_law_form" 2 ["_law_telling"] spForm) (Gw : Keeps CX0 P w K mg base "write_lot" 1 ["lot"] (spWlo (He.ga K "Lot"))) (Go : Keeps CX0 P w K mg base "_law_lot_of" 5 ["_law_telling"] (spLo K))
    (Gl : Keeps CX0 P w K mg base "_law_line" 1 ["_law_parts_here"] spLin) (Gt : Keeps CX0 P w K mg base "_law_turned" 3 ["_law_hand_here", "_law_rows"] spTurned) (Gr : Keeps CX0 P w K mg base "_law_read" 6 ["_law_text"] (spLrd K)) (Gi : Keeps CX0 P w K mg base "_law_is_form" 3 ["_law_lot", "_law_form_here"] (spIsF (He.ga K "Lot")))
    (G : Keeps CX0 P w K mg base "_law_draw" 2 ["_law_hand_here", "_law_many"] spDraw) : Keeps CX0 P w K mg base "_law_lines_hold" 7 ["_law_hand_here", "_law_telling"] spLh := by
  refine keeps_of F sc_lh (fun _ _ _ _ _ _ us hl => match us, hl with | [_, _], _ => rfl) (fun vs H Q E h => ?_) (fun f cdv A outer s H vs Q E hr h => ?_)
  · obtain ⟨p, c, t, c', u', d', T, fl, fh, fm, rfl, _⟩ := h
    rfl
  · obtain ⟨p, c, t, c', u', d', T, fl, fh, fm, rfl, hh, ta, dr, fo, l1, l2, k⟩ := h
    have h1 : Room 1 (A.deeper (envOfC "_law_lines_hold" (defScope s_lh) s.heap.objs.size f cdv)) := hr.mono (by decide)
    have h2 : Room 2 (A.deeper (envOfC "_law_lines_hold" (defScope s_lh) s.heap.objs.size f cdv)) := hr.mono (by decide)
    have h3 : Room 3 (A.deeper (envOfC "_law_lines_hold" (defScope s_lh) s.heap.objs.size f cdv)) := hr.mono (by decide)
    have h5 : Room 5 (A.deeper (envOfC "_law_lines_hold" (defScope s_lh) s.heap.objs.size f cdv)) := hr.mono (by decide)
    have ff := few_form dr fo l1 l2
    have near := near_of dr
    have dm := dr.m
    have dc := dr.c
    refine ⟨_, (pss_cons (ps_asg (pe_k Gp h1 (by rfl) pass0 (pa_cons (pv 1) pa_nil)) (pg_tup (by rfl) (pgs_cons (pg_name (i := 2) sc_lh.nd rfl (by walk_at "lv")) (pgs_cons (pg_name (i := 3) sc_lh.nd rfl (by walk_at "lv")) (pgs_cons (pg_name (i := 4) sc_lh.nd rfl (by walk_at "lv")) (pgs_cons (pg_name (i := 5) sc_lh.nd rfl (by walk_at "lv")) (pgs_cons (pg_name (i := 6) sc_lh.nd rfl (by walk_at "lv")) (pgs_cons (pg_name (i := 7) sc_lh.nd rfl (by walk_at "lv")) pgs_nil))))))))
        (pss_cons (ps_set (i := 8) sc_lh.nd rfl (by walk_at "lv") (pe_k Gf h2 (by rfl) pass0 (pa_cons (pv 1) pa_nil)))
        (pss_cons (ps_if (pt_cmpR op_ne (pe_k Gw h1 (by rfl) pass0 (pa_cons (pe_k Go h5 (by rfl) pass0 (pa_cons (pv 1) pa_nil)) pa_nil)) (pe_joinR pe_str (pe_k Gl h1 (by rfl) pass0 (pa_cons (pv 8) pa_nil))) (nomark _)) (pss_one (ps_ret pe_bl)) pss_nil)
        (pss_cons (ps_set (i := 9) sc_lh.nd rfl (by walk_at "lv") (pe_tup (pa_cons (pv 2) (pa_cons (pv 3) (pa_cons (pe_k Gt h3 (by rfl) pass0 (pa_cons (pv 0) (pa_cons (pv 4) pa_nil))) (pa_cons (pv 5) (pa_cons (pe_k Gt h3 (by rfl) pass0 (pa_cons (pv 0) (pa_cons (pv 6) pa_nil))) (pa_cons (pe_k Gt h3 (by rfl) pass0 (pa_cons (pv 0) (pa_cons (pv 7) pa_nil))) pa_nil))))))))
        (pss_cons (ps_set (i := 10) sc_lh.nd rfl (by walk_at "lv") (pe_k Gl h1 (by rfl) pass0 (pa_cons (pv 9) pa_nil)))
        (pss_cons (ps_set (i := 11) sc_lh.nd rfl (by walk_at "lv") (pe_joinR pe_str (pv 10)))
        (pss_cons (ps_set (i := 12) sc_lh.nd rfl (by walk_at "lv") (pe_k Gr hr (by rfl) pass0 (pa_cons (pv 11) pa_nil)))
        (C8.pss_cut (ps_if (PW.pt (pw_or (pt_cmpR op_ne (pe_ix ix_tup (pv 12) pe_int (fun _ _ => rfl)) pe_str (nomark _)) (pw_or1 (pt_not (pt_val (pe_k Gi h3 (by rfl) pass0 (pa_cons (pe_ix ix_tup (pv 12) pe_int (fun _ _ => rfl)) (pa_cons (pv 8) pa_nil)))))))) (pss_one (ps_ret pe_bl)) pss_nil)
        (pss_cons (ps_set (i := 13) sc_lh.nd rfl (by walk_at "lv") (pe_k G h2 (by rfl) pass0 (pa_cons (pv 0) (pa_cons (pe_callB call_len_seq (by rfl) N.len (by decide +kernel) (pa_cons (pv 10) pa_nil)) pa_nil))))
        (pss_cons (ps_set (i := 14) sc_lh.nd rfl (by walk_at "lv") (pe_ix ix_tup (pe_tup (pa_cons pe_str (pa_cons pe_str (pa_cons pe_str (pa_cons pe_str (pa_cons pe_str (pa_cons pe_str (pa_cons pe_str (pa_cons pe_str (pa_cons pe_str pa_nil)))))))))) (pe_k G h2 (by rfl) pass0 (pa_cons (pv 0) (pa_cons pe_int pa_nil))) (fun _ _ => rfl)))
        (pss_cons (ps_set (i := 15) sc_lh.nd rfl (by walk_at "lv") (pe_k G h2 (by rfl) pass0 (pa_cons (pv 0) (pa_cons pe_int pa_nil))))
        (pss_cons (ps_if (pt_cmpR op_eq (pv 15) pe_int (nomark _)) (pss_cons (ps_set (i := 16) sc_lh.nd rfl (by walk_at "lv") (pe_ix ix_tup (pe_tup (pa_cons (pe_op op_add_str (pv 11) pe_str) (pa_cons (pe_op op_add_str pe_str (pv 11)) (pa_cons (pe_op op_add_str (pv 11) pe_str) (pa_cons pe_int (pa_cons (pv 10) pa_nil)))))) (pe_k G h2 (by rfl) pass0 (pa_cons (pv 0) (pa_cons pe_int pa_nil))) (fun _ _ => rfl)))
        (pss_one (ps_ret (pe_cmpR (op_eqD hr.units) (pe_k Gr hr (by rfl) pass0 (pa_cons (pv 16) pa_nil)) (pe_tup (pa_cons pe_str (pa_cons pe_int (pa_cons pe_str pa_nil)))) (nomark _))))) pss_nil)
        (pss_cons (ps_set (i := 17) sc_lh.nd rfl (by walk_at "lv") (pe_op op_cat (pe_op op_cat (pe_slice sl_list (pv 10) po_none (po_some (pv 13))) (pe_lst (pa_cons (pv 14) pa_nil))) (pe_slice sl_list (pv 10) (po_some (pe_op op_sub (pe_op op_add (pv 13) pe_int) (pv 15))) po_none)))
        (C8.pss_cut (ps_if (PW.pt (pw_and (pt_not (PW.pt (pw_and (pt_cmpR op_eq (pv 15) pe_int (nomark _)) (pw_and (pt_cmpR op_eq (pv 14) pe_str (nomark _)) (pw_and1 (pt_cmpR op_eq (pv 13) pe_int (nomark _))))))) (pw_and1 (pt_cmpR (op_neD hr.units) (pe_k Gr hr (by rfl) pass0 (pa_cons (pe_joinR pe_str (pv 17)) pa_nil)) (pe_tup (pa_cons pe_str (pa_cons pe_int (pa_cons pe_str pa_nil)))) (nomark _))))) (pss_one (ps_ret pe_bl)) pss_nil)
        (pss_one (ps_ret (pe_cmpR (op_eqD hr.units) (pe_k Gr hr (by rfl) pass0 (pa_cons (pe_joinR pe_str (pe_op op_cat (pe_lst (pa_cons (pe_ix ix_list (pv 10) pe_int (fun _ _ => rfl)) (pa_cons (pe_ix ix_list (pv 10) pe_int (fun _ _ => rfl)) (pa_cons pe_str pa_nil)))) (pe_slice sl_list (pv 10) (po_some pe_int) po_none))) pa_nil)) (pe_tup (pa_cons pe_str (pa_cons pe_str pa_nil))) (nomark _)))))))))))))))))), ?_⟩
    refine ⟨_, rfl, t, c', u', d', T, rfl, ta, dr.ok, by omega, by omega, fun q a1 a2 a3 H1 s1 pa na1 na2 na3 => ?_⟩
    refine ⟨q, _, rfl, SqT.of pa.q, rfl, _, _, rfl, _, _, rfl, _, _, rfl, _, _, rfl, _, _, rfl, _, _, rfl, rfl, ?_⟩
    have hh1 := hh.same s1
    have ta1 := ta.same s1
    refine ⟨_, rfl, t, c', u', d', T, rfl, ta1, near, by omega, by omega, fun fq lo hi d H2 fo' _ _ s2 fa => ?_, fun lo hi d H2 fo' out _ => ?_⟩
    rotate_left
    · obtain ⟨rfl, rfl, rfl⟩ := fo.unique fo'
      omega
    obtain ⟨rfl, rfl, rfl⟩ := fo.unique fo'
    refine ⟨_, rfl, t, c', u', d', T, fl, fh, fm, rfl, ta1.same s2, near, by omega, dr.lo, dr.hi, fo, l1, l2, fun lp H3 s3 la => ?_⟩
    refine ⟨lp, fl, fh, fm, _, _, _, rfl, la, ⟨ff.e, ff.i, ff.u, ff.dw⟩, ⟨by have := ff.li; omega, by have := ff.lu; omega, by have := ff.ld; omega⟩, fun H4 s4 => ?_⟩
    have fa4 := fa.same (s3.trans s4)
    obtain ⟨b1, b2, b3, e0, e1, e2, e3⟩ := id fa4
    refine ⟨⟨_, rfl⟩, _, rfl, fq, b1, b2, b3, fl, fh, fm, _, _, _, rfl, e0, .inr e1, .inr e2, .inr e3, ⟨ff.e, ff.i, ff.u, ff.dw⟩, ⟨by have := ff.li; omega, by have := ff.lu; omega, by have := ff.ld; omega⟩, fun tl H5 s5 etl _ => ?_⟩
    have okf : LineOk (lotWs fl fh (insOf T fl fh) fm (resOf T.U fm) (resOf T.D fm)) := lot_ok ff.e ff.i ff.u ff.dw (by have := ff.li; omega) (by have := ff.lu; omega) (by have := ff.ld; omega)
    refine join_rd okf etl ?_
    refine ⟨rfl, _, rfl, iteNS rfl ?_⟩
    -- the parts, turned about
    have s15 := s2.trans (s3.trans (s4.trans s5))
    have fa5 := fa4.same s5
    have hh5 := hh1.same s15
    clear e0 e1 e2 e3 fa4 etl la
    refine ⟨_, rfl, _, rfl, _, rfl, _, rfl, p, c, a1, _, rfl, hh5, s15 _ _ pa.a, by have := parts_lens (T := T); omega, fun r1 ms H6 pm1 hh6 b6 nr1 er1 => ?_⟩
    refine ⟨_, rfl, _, rfl, _, rfl, p, c, a2, _, rfl, hh6, b6 _ _ (hh.off na2) (s15 _ _ pa.b), by have := parts_lens (T := T); omega, fun r2 us H7 pm2 hh7 b7 nr2 er2 => ?_⟩
    refine ⟨_, rfl, _, rfl, p, c, a3, _, rfl, hh7, b7 _ _ (hh.off na3) (b6 _ _ (hh.off na3) (s15 _ _ pa.c)), by have := parts_lens (T := T); rw [dr.ok.len] at this; omega, fun r3 ds H8 pm3 hh8 b8 nr3 er3 => ?_⟩
    have fp := few_part dr pm1 pm2 pm3
    have okl : LineOk (lotWs T.lo T.hi ms T.us.length us ds) := lot_ok fp.e fp.i fp.u fp.dw (by have := fp.li; omega) (by have := fp.lu; omega) (by have := fp.ld; omega)
    refine ⟨(by show 6 ≤ sizeLine; decide), fun q2 n2 => ?_⟩
    have s9 := same_new (o := .tup [.int T.lo, .int T.hi, .ref r1, .int T.us.length, .ref r2, .ref r3]) (Same.refl H8) n2
    have hh9 := hh8.same s9
    refine ⟨_, rfl, q2, r1, r2, r3, T.lo, T.hi, _, ms, us, ds, rfl, upd_same, .inl (s9 _ _ (b8 _ _ (hh5.off nr1) (b7 _ _ (hh5.off nr1) er1))), .inl (s9 _ _ (b8 _ _ (hh6.off nr2) er2)), .inl (s9 _ _ er3), ⟨fp.e, fp.i, fp.u, fp.dw⟩, ⟨by have := fp.li; omega, by have := fp.lu; omega, by have := fp.ld; omega⟩, fun W H10 s10 eW nW => ?_⟩
    have hh10 := hh9.same s10
    have Wp : W ≠ p := hh9.off nW
    refine ⟨⟨_, rfl⟩, _, rfl, join_rd okl eW ?_⟩
    refine ⟨_, rfl, ?_⟩
    dsimp only [tNil]
    refine read_line hh10 okl ?_
    rw [descOf_lot fp.e fp.i fp.u fp.dw]
    refine ⟨⟨by have := fp.li; omega, by have := fp.lu; omega, by have := fp.ld; omega⟩, fun x1 x2 x3 H11 s11 y1 y2 y3 => make_good dr pm1 pm2 pm3 ⟨T, fl, fh, fm, ⟨x1, x2, x3, ms, us, ds, rfl, near, by omega, told_parts dr.ok pm1 pm2 pm3, .inl y1, .inl y2, .inl y3, fo, l1, l2⟩, fun lq tq H12 s12 la tqe => ?_⟩⟩
    refine ⟨fun σ H' => ∃ (fq q2 W tq : Addr) (ms us ds : List Int), σ = [some (.ref p), some (.ref t), some (.int T.lo), some (.int T.hi), some (.ref a1), some (.int T.us.length), some (.ref a2), some (.ref a3), some (.ref fq), some (.ref q2), some (.ref W), some (.str (SX.S (lineW (lotWs T.lo T.hi ms T.us.length us ds)))), some (.ref tq), none, none, none, none, none] ∧
      HandC H' p c ∧ But p H H' ∧ H' W = some (.lst ((lotWs T.lo T.hi ms T.us.length us ds).map wordV)) ∧ W ≠ p ∧ ms.Perm (cIns T) ∧ us.Perm (res T.us) ∧ ds.Perm (res T.ds), ?_, ?_⟩
    · refine ⟨_, rfl, tq, _, _, _, rfl, rfl, SqT.of tqe, at_head, rfl, _, rfl, iteNS rfl ?_⟩
      have sl := s9.trans (s10.trans (s11.trans s12))
      have b58 := b6.trans (b7.trans b8)
      refine ⟨_, rfl, tq, _, _, _, rfl, rfl, SqT.of tqe, rfl, _, rfl, lq, fq, fl, fh, fm, _, _, _, rfl, la, (fa5.but hh5 b58).same sl, rows_ok, fun H13 s13 => ?_⟩
      refine ⟨_, rfl, iteF ?_⟩
      have sz := (s10.trans (s11.trans s12)).trans s13
      exact ⟨fq, q2, W, tq, ms, us, ds, rfl, hh9.same sz, (But.of (s1.trans s15)).trans (b58.trans ((But.of s9).trans (But.of sz))), s13 _ _ (s12 _ _ (s11 _ _ eW)), Wp, pm1, pm2, pm3⟩
    -- a line spoilt
    clear fa5 hh5 hh1 ta1 pa hh10 hh9 hh8 hh7 hh6 b6 b7 b8 er1 er2 er3 nr1 nr2 nr3 eW nW Wp okl okf fp y1 y2 y3 la tqe fa ta pm1 pm2 pm3
    rintro _ K1 ⟨fq, q2, W, tq, ms, us, ds, rfl, hk, bk, eW, Wp, pm1, pm2, pm3⟩
    have fp := few_part dr pm1 pm2 pm3
    have okl : LineOk (lotWs T.lo T.hi ms T.us.length us ds) := lot_ok fp.e fp.i fp.u fp.dw (by have := fp.li; omega) (by have := fp.lu; omega) (by have := fp.ld; omega)
    have many : (lotWs T.lo T.hi ms T.us.length us ds).length = 6 + ms.length + us.length + ds.length := lotWs_many
    have many2 : (lotWs T.lo T.hi ms T.us.length us ds).length ≤ 38 := by
      have := fp.li
      have := fp.lu
      have := fp.ld
      omega
    have w7 := lotWs_len fp.e fp.i fp.u fp.dw
    have w3 : (lotWs T.lo T.hi ms T.us.length us ds)[3]? = some wInside := rfl
    generalize hws : lotWs T.lo T.hi ms T.us.length us ds = ws at *
    have lenV : (ws.map wordV).length = ws.length := List.length_map ..
    refine ⟨_, rfl, _, rfl, W, _, rfl, .inl (SqL.of eW), p, c, _, rfl, hk, ⟨by rw [lenV]; omega, log_le (by rw [lenV]; omega)⟩, fun at_ K2 at0 at1 hk2 bk2 => ?_⟩
    rw [lenV] at at1
    refine ⟨(by show 9 ≤ sizeLine; decide), fun o no => ?_⟩
    have so := same_new (o := .tup oddVs) (Same.refl K2) no
    refine ⟨_, rfl, p, c, 9, rfl, hk2.same so, ⟨by decide, by decide⟩, fun r K3 r0 r1 hk3 bk3 => ?_⟩
    obtain ⟨v, v1, v2⟩ := atI_of (xs := oddVs) r0 r1
    obtain ⟨u, rfl, ou, wu⟩ := odd_at v1
    refine ⟨o, _, _, _, rfl, rfl, SqT.of (bk3 _ _ (hk2.off no) upd_same), v2, ?_⟩
    refine ⟨_, rfl, p, c, 3, rfl, hk3, ⟨by decide, by decide⟩, fun way K4 way0 way1 hk4 bk4 => ?_⟩
    have b14 := bk2.trans ((But.of so).trans (bk3.trans bk4))
    have eW4 := b14 _ _ Wp eW
    have bk4' := bk.trans b14
    have ll := okl.len
    have okw := (okl.ok ws rfl).2
    have sp1 : (" " : Str).length = 1 := by rw [s_sp, SX.S_len]; rfl
    have nl1 : ("\n" : Str).length = 1 := by rw [s_nl, SX.S_len]; rfl
    refine ⟨_, rfl, rfl, _, rfl, ite2 (fun w2 => ?_) (fun w2 => ?_)⟩
    · refine ⟨_, rfl, _, _, rfl, rfl, by rw [SX.S_len, sp1, sizeLine_eq]; omega, ?_⟩
      refine ⟨_, rfl, _, _, rfl, rfl, by show (" " : Str).length + _ ≤ _; rw [sp1, SX.S_len, sizeLine_eq]; omega, ?_⟩
      refine ⟨_, rfl, _, _, rfl, rfl, by rw [SX.S_len, nl1, sizeLine_eq]; omega, ?_⟩
      refine ⟨_, rfl, (by show 5 ≤ sizeLine; decide), fun o2 no2 => ?_⟩
      have so2 := same_new (o := .tup (spoiltVs ws W)) (Same.refl K4) no2
      refine ⟨_, rfl, p, c, 5, rfl, hk4.same so2, ⟨by decide, by decide⟩, fun r2 K5 r20 r21 hk5 bk5 => ?_⟩
      obtain ⟨v, v1, v2⟩ := atI_of (xs := spoiltVs ws W) r20 r21
      refine ⟨o2, _, _, _, rfl, rfl, SqT.of (bk5 _ _ (hk4.off no2) upd_same), v2, ?_⟩
      have b45 := (But.of so2).trans bk5 (p := p)
      obtain ⟨d, ow, tv, tx, wo, no⟩ := spoilt_at okl (by omega) w7 (b45 _ _ Wp eW4) Wp v1
      refine ⟨_, rfl, ?_⟩
      dsimp only [tNil]
      refine read_none hk5 tv tx wo no fun q6 K6 s6 e6 => eq_text e6 fun K7 s7 => ?_
      exact k K7 (hk5.same (s6.trans s7)) (bk4'.trans (b45.trans (But.of (s6.trans s7))))
    · obtain ⟨n, rfl⟩ := int_nat at0
      have n0 : n < ws.length := by omega
      obtain ⟨j, ej, hj⟩ : ∃ j : Nat, (n : Int) + 1 - way = (j : Int) ∧ ((way = 0 ∧ j = n + 1) ∨ (way = 1 ∧ j = n)) := by
        have w2 : ¬ way = 2 := fun z => w2 (decide_eq_true (by rw [z]))
        rcases (show way = 0 ∨ way = 1 by omega) with rfl | rfl
        · exact ⟨n + 1, by omega, .inl ⟨rfl, rfl⟩⟩
        · exact ⟨n, by omega, .inr ⟨rfl, rfl⟩⟩
      refine ⟨_, rfl, _, rfl, _, rfl, W, _, rfl, SqL.of eW4, fun D1 n1 => ?_⟩
      have t1 := same_new (o := .lst (cutV (ws.map wordV) none (some (n : Int)))) (Same.refl K4) n1
      refine ⟨_, rfl, (by show 1 ≤ sizeLine; decide), fun D2 n2 => ?_⟩
      have t2 := same_new (o := .lst [wordV u]) (Same.refl _) n2
      refine ⟨D1, D2, _, _, rfl, rfl, t2 _ _ upd_same, upd_same, by rw [cut_to, List.length_take, lenV]; show _ + 1 ≤ _; rw [sizeLine_eq]; omega, fun D3 n3 => ?_⟩
      have t3 := same_new (o := .lst (cutV (ws.map wordV) none (some (n : Int)) ++ [wordV u])) (Same.refl _) n3
      refine ⟨_, rfl, _, rfl, _, _, rfl, rfl, _, rfl, _, _, rfl, rfl, _, rfl, W, _, rfl, SqL.of (t3 _ _ (t2 _ _ (t1 _ _ eW4))), fun D4 n4 => ?_⟩
      have t4 := same_new (o := .lst (cutV (ws.map wordV) (some ((n : Int) + 1 - way)) none)) (Same.refl _) n4
      have lk : (ws.drop j).length ≤ ws.length := by rw [List.length_drop]; omega
      have lt : (ws.take n).length = n := by rw [List.length_take]; omega
      refine ⟨D3, D4, _, _, rfl, rfl, t4 _ _ upd_same, upd_same, by rw [ej, cut_from, cut_to, List.length_append, ← List.map_take, ← List.map_drop, List.length_map, List.length_map, lt]; show n + 1 + _ ≤ _; rw [sizeLine_eq]; omega, fun D5 n5 => ?_⟩
      have t5 := same_new (o := .lst ((cutV (ws.map wordV) none (some (n : Int)) ++ [wordV u]) ++ cutV (ws.map wordV) (some ((n : Int) + 1 - way)) none)) (Same.refl _) n5
      have ev : (cutV (ws.map wordV) none (some (n : Int)) ++ [wordV u]) ++ cutV (ws.map wordV) (some ((n : Int) + 1 - way)) none = (ws.take n ++ [u] ++ ws.drop j).map wordV := by
        rw [ej, cut_from, cut_to, List.map_append, List.map_append, List.map_take, List.map_drop]
        rfl
      have tt := t1.trans (t2.trans (t3.trans (t4.trans t5)))
      have hk6 := hk4.same tt
      have okn : LineOk (ws.take n ++ [u] ++ ws.drop j) := by
        refine ⟨by simp, by rw [List.length_append, List.length_append, lt]; show n + 1 + _ ≤ _; omega, fun x hx => ?_⟩
        rcases List.mem_append.mp hx with q | q
        · rcases List.mem_append.mp q with q | q
          · exact okl.2.2 x (List.mem_of_mem_take q)
          · rw [List.mem_singleton.mp q]
            exact wu
        · exact okl.2.2 x (List.mem_of_mem_drop q)
      refine ⟨fun σ H' => σ[10]? = some (some (.ref W)) ∧ HandC H' p c ∧ But p H H' ∧ H' W = some (.lst (ws.map wordV)), ?_, ?_⟩
      · have last : ∀ K7, Same K4 K7 → HandC K7 p c ∧ But p H K7 ∧ K7 W = some (.lst (ws.map wordV)) := fun K7 s7 => ⟨hk4.same s7, bk4'.trans (But.of s7), s7 _ _ eW4⟩
        by_cases hz : way = 0 ∧ u = wInside ∧ n = 3
        · obtain ⟨rfl, rfl, rfl⟩ := hz
          refine ⟨_, rfl, rfl, _, rfl, iteT ?_⟩
          refine ⟨_, rfl, rfl, _, rfl, ?_⟩
          rw [eq_ins, decide_eq_true (p := wInside = wInside) rfl]
          refine iteT ⟨_, rfl, rfl, _, rfl, iteF (iteF ⟨rfl, last _ tt⟩)⟩
        · have no : descOf (ws.take n ++ [u] ++ ws.drop j) = none := descOf_spoilt w3 n0 (hj.elim (fun h => .inl h.2) fun h => .inr h.2) ou fun z => hz ⟨by omega, z.2.1, z.2.2⟩
          refine ⟨_, rfl, rfl, _, rfl, ite2 (fun g1 => ?_) (fun _ => iteT ?_)⟩
          · refine ⟨_, rfl, rfl, _, rfl, ?_⟩
            rw [eq_ins]
            refine ite2 (fun g2 => ?_) (fun _ => iteT ?_)
            · refine ⟨_, rfl, rfl, _, rfl, ite2 (fun _ => ?_) (fun g3 => absurd ⟨V.int.inj (of_decide_eq_true g1), of_decide_eq_true g2, by
                have g3 : V.int (n : Int) = V.int 3 := by simpa using g3
                have := V.int.inj g3
                omega⟩ hz)⟩
              refine ⟨⟨_, rfl⟩, _, rfl, join_rd okn (by rw [upd_same, ev]) ?_⟩
              dsimp only [tNil]
              refine read_bad hk6 okn no fun q6 K7 s6 e6 => ne_text e6 fun K8 s8 => ?_
              exact ⟨_, rfl, iteF ⟨rfl, last _ (tt.trans (s6.trans s8))⟩⟩
            · refine ⟨⟨_, rfl⟩, _, rfl, join_rd okn (by rw [upd_same, ev]) ?_⟩
              dsimp only [tNil]
              refine read_bad hk6 okn no fun q6 K7 s6 e6 => ne_text e6 fun K8 s8 => ?_
              exact ⟨_, rfl, iteF ⟨rfl, last _ (tt.trans (s6.trans s8))⟩⟩
          · refine ⟨⟨_, rfl⟩, _, rfl, join_rd okn (by rw [upd_same, ev]) ?_⟩
            dsimp only [tNil]
            refine read_bad hk6 okn no fun q6 K7 s6 e6 => ne_text e6 fun K8 s8 => ?_
            exact ⟨_, rfl, iteF ⟨rfl, last _ (tt.trans (s6.trans s8))⟩⟩
      · rintro σ K7 ⟨e10, hk7, bk7, eW7⟩
        have a0 : atI (ws.map wordV) 0 = some (wordV (wNum T.lo)) := by rw [← hws]; exact atI_nat (j := 0) rfl
        have a1' : atI (ws.map wordV) 1 = some (wordV (wNum T.hi)) := by rw [← hws]; exact atI_nat (j := 1) rfl
        have d3 : cutV (ws.map wordV) (some 3) none = (ws.drop 3).map wordV := by rw [List.map_drop]; exact cut_from (i := 3)
        refine ⟨⟨_, rfl⟩, _, e10, W, _, _, _, rfl, rfl, SqL.of eW7, a0, _, e10, W, _, _, _, rfl, rfl, SqL.of eW7, a1', (by show 3 ≤ sizeLine; decide), fun E1 m1 => ?_⟩
        have u1 := same_new (o := .lst [wordV (wNum T.lo), wordV (wNum T.hi), .str "10081"]) (Same.refl K7) m1
        refine ⟨_, e10, _, rfl, W, _, rfl, SqL.of (u1 _ _ eW7), fun E2 m2 => ?_⟩
        have u2 := same_new (o := .lst (cutV (ws.map wordV) (some 3) none)) (Same.refl _) m2
        refine ⟨E1, E2, _, _, rfl, rfl, u2 _ _ upd_same, upd_same, by rw [d3, List.length_map, List.length_drop]; show 3 + _ ≤ _; rw [sizeLine_eq]; omega, fun E3 m3 => ?_⟩
        have u3 := same_new (o := .lst ([wordV (wNum T.lo), wordV (wNum T.hi), .str "10081"] ++ cutV (ws.map wordV) (some 3) none)) (Same.refl _) m3
        have w81 : V.str "10081" = wordV (wNum 10081) := by kernel_rfl
        have ef : ([wordV (wNum T.lo), wordV (wNum T.hi), .str "10081"] ++ cutV (ws.map wordV) (some 3) none : List V) = (lotWs T.lo T.hi ms 10081 us ds).map wordV := by
          rw [d3, w81, ← hws]
          rfl
        have f81 : Few [T.lo, T.hi, 10081] := fun n hn => by
          simp only [List.mem_cons, List.not_mem_nil, or_false] at hn
          rcases hn with rfl | rfl | rfl
          · exact fp.e _ (by simp)
          · exact fp.e _ (by simp)
          · decide
        have okF : LineOk (lotWs T.lo T.hi ms 10081 us ds) := lot_ok f81 fp.i fp.u fp.dw (by have := fp.li; omega) (by have := fp.lu; omega) (by have := fp.ld; omega)
        have uu := u1.trans (u2.trans u3)
        refine join_rd okF (by rw [upd_same, ef]) ?_
        dsimp only [tNil]
        refine read_line (hk7.same uu) okF ?_
        rw [descOf_lot f81 fp.i fp.u fp.dw]
        refine ⟨⟨by have := fp.li; omega, by have := fp.lu; omega, by have := fp.ld; omega⟩, fun x1 x2 x3 H11 s11 _ _ _ => make_far dr pm1 fun q6 K8 s8 e6 => eq_lot e6 fun K9 s9 => ?_⟩
        have v9 := uu.trans (s8.trans s9)
        exact k K9 (hk7.same v9) (bk7.trans (But.of v9))
end
end My
set_option Elab.async false
set_option linter.all false
set_option maxRecDepth 100000
set_option maxHeartbeats 8000000
namespace My
open PySem PySem.Spec PyProof.Rows L2
local macro_rules | `(tactic| walk_at "lv") => `(tactic| first | exact Or.inl rfl | exact Or.inr rfl)
/-! ### small lines, by data -/
def Lt.u : Lt → List Nat
  | .set _ => wSet
  | .add _ => wAdd
  | .turn => wTurn
  | .mod _ => wMod
def Lt.ns : Lt → List Int
  | .set v => [v]
  | .add v => [v]
  | .turn => []
  | .mod m => [(m : Int)]
def Ts.u : Ts → List Nat
  | .below _ => wBelow
  | .is _ => wIs
  | .rest _ _ => wRest
def Ts.ns : Ts → List Int
  | .below v => [v]
  | .is v => [v]
  | .rest m r => [(m : Int), r]
theorem Lt.vsE (L : Lt) : L.vs = smallV L.u L.ns := by cases L <;> kernel_rfl
theorem Ts.vsE (L : Ts) : L.vs = smallV L.u L.ns := by cases L <;> kernel_rfl
def smW (u : List Nat) (ns : List Int) : List (List Nat) := u :: ns.map wNum
theorem parts_small {u : List Nat} {ns : List Int} (f : Few ns) : PartsW (smallV u ns) (smW u ns) := parts_cons (part_word rfl) (parts_nums f)
theorem smW_ok {u : List Nat} {ns : List Int} (w : WordOk u) (f : Few ns) (l : ns.length ≤ 20) : LineOk (smW u ns) := by
  refine ⟨by unfold smW; simp, by unfold smW; rw [List.length_cons, List.length_map]; omega, fun x hx => ?_⟩
  rcases List.mem_cons.mp hx with rfl | q
  · exact w
  · exact nums_ok f x q
theorem item_some {fs : Forms} {u : List Nat} {ns : List Int} (h : (u, ns.length) ∈ fs) (f : Few ns) : itemD (some (smW u ns)) fs ((smW u ns).tail.map pf) = some (u, ns) := by
  show (if (u, (ns.map wNum).length) ∈ fs then (sqI ((ns.map wNum).map pf)).map (fun ns => (u, ns)) else none) = _
  rw [List.length_map, if_pos h]
  have := rdNs_nums f
  unfold rdNs at this
  rw [this]
  rfl
theorem item_none {fs : Forms} {u : List Nat} {r : List (List Nat)} {os : List (Option Int)} (h : (u, r.length) ∉ fs) : itemD (some (u :: r)) fs os = none := if_neg h
theorem words_okS {ws : List (List Nat)} (ok : LineOk ws) : WordsOk (some ws) (ws.tail.map pf) := by
  refine ⟨fun vs e => ?_, fun vs e u r eu => ?_, fun vs e => ?_⟩
  · cases e
    have := ok.2.1
    omega
  · cases e
    subst eu
    exact shp_low fun c hc => ((ok.2.2 u List.mem_cons_self).1 c hc).2
  · cases e
    refine pfs_are fun x hx => ?_
    have := (ok.2.2 x (List.mem_of_mem_tail hx)).2
    omega
theorem sml_line {K : PySem.W.Frag} {p c : Addr} {H : Hp} {lt : Bool} {ws : List (List Nat)} {Q : VK} {E : XK} (hh : HandC H p c) (ok : LineOk ws) (k : SmallEnd H Q lt (itemD (some ws) (fsOf lt) (ws.tail.map pf))) : spSml K [.str (SX.S (lineW ws)), .bl lt] H Q E := by
  obtain ⟨_, _, _, _, hp, _⟩ := hh
  exact ⟨p, _, _, lt, _, _, _, rfl, hp, .str _ ok.shp, ok.text, words_okS ok, k⟩
theorem sml_none {K : PySem.W.Frag} {p c : Addr} {H : Hp} {lt : Bool} {u : List Nat} {r : List (List Nat)} {Q : VK} {E : XK} (hh : HandC H p c) (ok : LineOk (u :: r)) (no : (u, r.length) ∉ fsOf lt) (k : TextEnd H Q) : spSml K [.str (SX.S (lineW (u :: r))), .bl lt] H Q E :=
  sml_line hh ok (by rw [item_none no]; exact k)
theorem sml_thing {K : PySem.W.Frag} {p c : Addr} {H : Hp} {lt : Bool} {v : V} {d : PyData} {Q : VK} {E : XK} (hh : HandC H p c) (t : Tg p H v d) (ns : isStrD d = false) (k : TextEnd H Q) : spSml K [v, .bl lt] H Q E := by
  obtain ⟨_, _, _, _, hp, _⟩ := hh
  exact ⟨p, _, v, lt, d, none, [], rfl, hp, t, .inr ⟨ns, rfl⟩, ⟨(fun _ z => nomatch z), (fun _ z => nomatch z), (fun _ z => nomatch z)⟩, k⟩
theorem sml_good {K : PySem.W.Frag} {p c : Addr} {H : Hp} {lt : Bool} {u : List Nat} {ns : List Int} {Q : VK} {E : XK} (hh : HandC H p c) (w : WordOk u) (f : Few ns) (l : ns.length ≤ 20) (h : (u, ns.length) ∈ fsOf lt) (g : fitOf lt (smallD u ns) = true)
    (k : ∀ t q H', Same H H' → H' t = some (.tup (smallV u ns)) → H' q = some (.tup [.str "read", .ref t]) → Q (.ref q) H') : spSml K [.str (SX.S (lineW (smW u ns))), .bl lt] H Q E :=
  sml_line (K := K) hh (smW_ok w f l) (by
    rw [item_some h f]
    exact ⟨fun z => (by rw [g] at z; cases z), fun _ => k⟩)
theorem sml_far {K : PySem.W.Frag} {p c : Addr} {H : Hp} {lt : Bool} {u : List Nat} {ns : List Int} {Q : VK} {E : XK} (hh : HandC H p c) (w : WordOk u) (f : Few ns) (l : ns.length ≤ 20) (h : (u, ns.length) ∈ fsOf lt) (g : fitOf lt (smallD u ns) = false)
    (k : ∀ q H', Same H H' → H' q = some (.tup [.str "beyond", .bl lt]) → Q (.ref q) H') : spSml K [.str (SX.S (lineW (smW u ns))), .bl lt] H Q E :=
  sml_line (K := K) hh (smW_ok w f l) (by
    rw [item_some h f]
    exact ⟨fun _ => k, fun z => (by rw [g] at z; cases z)⟩)
section
variable {K : PySem.W.Frag} {H : Hp} {q t : Addr} {Q : VK} {σ : L2.St} {lt : Bool}
def beyD (lt : Bool) : PyData := .tuple [.str "beyond", .bool lt]
theorem dp_bey (e : H q = some (.tup [.str "beyond", .bl lt])) : Dp K H (.ref q) (beyD lt) := .tup (SqT.of e) (.cons (.str _) (.cons (.bl _) .nil))
theorem bey_eqv : PyData.eqv (beyD lt) (beyD lt) = true := by cases lt <;> kernel_rfl
theorem bey_shp : SeqAt.shaped (beyD lt) = true := by cases lt <;> kernel_rfl
theorem eq_bey (e : H q = some (.tup [.str "beyond", .bl lt])) (k : ∀ H', Same H H' → Q (.bl true) H') :
    tTup (tCons (tC (.str "beyond")) (tCons (tC (.bl lt)) tNil)) σ H fun y H2 => rEqD K (.ref q) y H2 Q := by
  refine ⟨(by show 2 ≤ sizeLine; decide), fun t n => ?_⟩
  have s := same_new (o := .tup [.str "beyond", .bl lt]) (Same.refl H) n
  refine ⟨_, _, dp_bey (s _ _ e), dp_bey upd_same, bey_shp, bey_shp, ?_⟩
  rw [bey_eqv]
  exact k _ s
theorem ne_bey (e : H q = some (.tup [.str "beyond", .bl lt])) (k : ∀ H', Same H H' → Q (.bl false) H') :
    tTup (tCons (tC (.str "beyond")) (tCons (tC (.bl lt)) tNil)) σ H fun y H2 => rNeD K (.ref q) y H2 Q := by
  refine ⟨(by show 2 ≤ sizeLine; decide), fun t n => ?_⟩
  have s := same_new (o := .tup [.str "beyond", .bl lt]) (Same.refl H) n
  refine ⟨_, _, dp_bey (s _ _ e), dp_bey upd_same, bey_shp, bey_shp, ?_⟩
  rw [bey_eqv]
  exact k _ s
def readD (d : PyData) : PyData := .tuple [.str "read", d]
theorem small_small {u : List Nat} {ns : List Int} (w : WordOk u) : Small 2 (smallD u ns) := by
  refine small_tup (n := 1) fun d hd => ?_
  rcases List.mem_cons.mp hd with rfl | hd
  · have sh := shp_low fun c hc => (w.1 c hc).2
    unfold SeqAt.shaped at sh
    obtain ⟨h1, _⟩ := and_ok sh
    exact ⟨h1, Nat.le_of_ble_eq_true (by kernel_rfl)⟩
  · obtain ⟨n, _, rfl⟩ := List.mem_map.mp hd
    exact ⟨by kernel_rfl, Nat.le_of_ble_eq_true (by kernel_rfl)⟩
theorem small_read {d : PyData} (h : Small 2 d) : Small 3 (readD d) := by
  refine small_tup (n := 2) fun x hx => ?_
  rcases List.mem_cons.mp hx with rfl | hx
  · exact ⟨by kernel_rfl, Nat.le_of_ble_eq_true (by kernel_rfl)⟩
  · rw [List.mem_singleton.mp hx]
    exact h
theorem dp_small {u : List Nat} {ns : List Int} (e : H t = some (.tup (smallV u ns))) : Dp K H (.ref t) (smallD u ns) := .tup (SqT.of e) (.cons (.str _) (dp_ints ns))
theorem ne_read {i : Nat} {t2 : Addr} {u : List Nat} {ns : List Int} (w : WordOk u) (e : H q = some (.tup [.str "read", .ref t])) (et : H t = some (.tup (smallV u ns))) (e2 : H t2 = some (.tup (smallV u ns))) (ei : σ[i]? = some (some (.ref t2))) (k : ∀ H', Same H H' → Q (.bl false) H') :
    tTup (tCons (tC (.str "read")) (tCons (tVar i) tNil)) σ H fun y H2 => rNeD K (.ref q) y H2 Q := by
  refine ⟨_, ei, (by show 2 ≤ sizeLine; decide), fun o n => ?_⟩
  have s := same_new (o := .tup [.str "read", .ref t2]) (Same.refl H) n
  have sm := small_read (small_small (ns := ns) w)
  refine ⟨readD (smallD u ns), readD (smallD u ns), .tup (SqT.of (s _ _ e)) (.cons (.str _) (.cons (dp_small (s _ _ et)) .nil)), .tup (SqT.of upd_same) (.cons (.str _) (.cons (dp_small (s _ _ e2)) .nil)), sm.shaped (by decide), sm.shaped (by decide), ?_⟩
  rw [SeqAt.eqv_refl _ sm.1]
  exact k _ s
end
theorem Lt.fit {L : Lt} (ok : L.Ok) : flT (smallD L.u L.ns) = true := by
  cases L with
  | set v => exact (show flD [.str (SX.S wSet), .int v] = true from by
      rw [flD_sa (by kernel_rfl) (by kernel_rfl), show (PyData.eqv (.str "set") (.str (SX.S wSet)) || PyData.eqv (.str "add") (.str (SX.S wSet))) = true from by kernel_rfl, wDd_int ok]; rfl)
  | add v => exact (show flD [.str (SX.S wAdd), .int v] = true from by
      rw [flD_sa (by kernel_rfl) (by kernel_rfl), show (PyData.eqv (.str "set") (.str (SX.S wAdd)) || PyData.eqv (.str "add") (.str (SX.S wAdd))) = true from by kernel_rfl, wDd_int ok]; rfl)
  | turn => kernel_rfl
  | mod m => exact (show flD [.str (SX.S wMod), .int (m : Int)] = true from by
      have ok : 1 ≤ m ∧ m ≤ 6 := ok
      rw [flD_mod (by kernel_rfl) (by kernel_rfl)]
      exact wDd_int (by omega))
theorem Ts.fit {L : Ts} (ok : L.Ok) : ftT (smallD L.u L.ns) = true := by
  cases L with
  | below v => exact (show ftD [.str (SX.S wBelow), .int v] = true from by
      rw [ftD_bi (by kernel_rfl), show (PyData.eqv (.str "below") (.str (SX.S wBelow)) || PyData.eqv (.str "is") (.str (SX.S wBelow))) = true from by kernel_rfl, wDd_int ok]; rfl)
  | is v => exact (show ftD [.str (SX.S wIs), .int v] = true from by
      rw [ftD_bi (by kernel_rfl), show (PyData.eqv (.str "below") (.str (SX.S wIs)) || PyData.eqv (.str "is") (.str (SX.S wIs))) = true from by kernel_rfl, wDd_int ok]; rfl)
  | rest m r => exact (show ftD [.str (SX.S wRest), .int (m : Int), .int r] = true from by
      have ok : (1 ≤ m ∧ m ≤ 6) ∧ 0 ≤ r ∧ r < m := ok
      rw [ftD_rest (by kernel_rfl), wDd_int (n := (m : Int)) (by omega)]
      show (true && wDd 0 ((m : Int) - 1) (.int r)) = true
      rw [wDd_int (by omega)]
      rfl)
theorem far_add {n : Int} (h : 20 < n) : flT (smallD wAdd [-n]) = false := (show flD [.str (SX.S wAdd), .int (-n)] = false from by
  rw [flD_sa (by kernel_rfl) (by kernel_rfl), wDd_no (by omega), Bool.and_false])
theorem far_is {n : Int} (h : 20 < n) : ftT (smallD wIs [n]) = false := (show ftD [.str (SX.S wIs), .int n] = false from by
  rw [ftD_bi (by kernel_rfl), wDd_no (by omega), Bool.and_false])
theorem far_rest {n : Int} : ftT (smallD wRest [n, n]) = false := (show ftD [.str (SX.S wRest), .int n, .int n] = false from by
  rw [ftD_rest (by kernel_rfl)]
  exact Bool.and_eq_false_iff.mpr (.inr (show wDd 0 (n - 1) (.int n) = false from wDd_no (by omega))))
theorem Lt.few {L : Lt} (ok : L.Ok) : Few L.ns := by
  refine few_mem fun n hn => ?_
  cases L with
  | set v => have ok : -20 ≤ v ∧ v ≤ 20 := ok; have := List.mem_singleton.mp hn; omega
  | add v => have ok : -20 ≤ v ∧ v ≤ 20 := ok; have := List.mem_singleton.mp hn; omega
  | turn => cases hn
  | mod m => have ok : 1 ≤ m ∧ m ≤ 6 := ok; have := List.mem_singleton.mp hn; omega
theorem Ts.few {L : Ts} (ok : L.Ok) : Few L.ns := by
  refine few_mem fun n hn => ?_
  cases L with
  | below v => have ok : -20 ≤ v ∧ v ≤ 20 := ok; have := List.mem_singleton.mp hn; omega
  | is v => have ok : -20 ≤ v ∧ v ≤ 20 := ok; have := List.mem_singleton.mp hn; omega
  | rest m r =>
    have ok : (1 ≤ m ∧ m ≤ 6) ∧ 0 ≤ r ∧ r < m := ok
    have hn : n ∈ [(m : Int), r] := hn
    simp only [List.mem_cons, List.not_mem_nil, or_false] at hn
    omega
theorem Lt.uOk (L : Lt) : WordOk L.u := word_of (by cases L <;> rfl)
theorem Ts.uOk (L : Ts) : WordOk L.u := word_of (by cases L <;> rfl)
theorem Lt.form (L : Lt) : (L.u, L.ns.length) ∈ fsOf true := by cases L <;> (show _ ∈ fsL; simp [fsL, Lt.u, Lt.ns])
theorem Ts.form (L : Ts) : (L.u, L.ns.length) ∈ fsOf false := by cases L <;> (show _ ∈ fsT; simp [fsT, Ts.u, Ts.ns])
theorem Ts.formN (L : Ts) : (L.u, (L.ns.map wNum).length) ∉ fsOf true := by cases L <;> (show _ ∉ fsL; simp [fsL, Ts.u, Ts.ns, wBelow, wIs, wRest, wSet, wAdd, wTurn, wMod])
theorem Ts.formM (L : Ts) : (L.u, (L.ns.map wNum ++ [[49]]).length) ∉ fsOf false := by cases L <;> (show _ ∉ fsT; simp [fsT, Ts.u, Ts.ns, wBelow, wIs, wRest])
theorem Lt.nsl (L : Lt) : L.ns.length ≤ 20 := by cases L <;> (show _ ≤ 20; simp [Lt.ns])
theorem Ts.nsl (L : Ts) : L.ns.length ≤ 20 := by cases L <;> (show _ ≤ 20; simp [Ts.ns])
end My
set_option Elab.async false
set_option linter.all false
set_option maxRecDepth 100000
set_option maxHeartbeats 8000000
namespace My
open PySem PySem.Spec PyProof.Rows L2
local macro_rules | `(tactic| walk_at "lv") => `(tactic| first | exact Or.inl rfl | exact Or.inr rfl)
section
variable {P : Program} {w : World} {K : PySem.W.Frag} {mg : Str → Option Value} {base : Heap}
/-! ### _law_small_lines -/
def spSl : Sp := fun vs H Q _ => ∃ (p c : Addr), vs = [.ref p] ∧ HandC H p c ∧ ∀ H', HandC H' p c → But p H H' → Q (.bl true) H'
theorem wNum_pos {n : Int} (h : 0 ≤ n) : wNum n = TL.numL n.natAbs := by
  unfold wNum
  rw [if_neg (by omega)]
theorem wNum_neg {n : Int} (h : 0 < n) : wNum (-n) = 45 :: wNum n := by
  rw [wNum_pos (n := n) (by omega)]
  unfold wNum
  rw [if_pos (by omega), Int.natAbs_neg]
theorem s_add : ("add -" : Str) = SX.S [97, 100, 100, 32, 45] := by kernel_rfl
theorem s_is : ("is " : Str) = SX.S [105, 115, 32] := by kernel_rfl
theorem s_rest : ("rest " : Str) = SX.S [114, 101, 115, 116, 32] := by kernel_rfl
theorem s_b1 : (" 1" : Str) = SX.S [32, 49] := by kernel_rfl
theorem v_add {n : Int} (h : 0 < n) : (V.str (("add -" : Str) ++ SX.S (wNum n)) : V) = .str (SX.S (lineW (smW wAdd [-n]))) := by
  rw [s_add, SX_app]
  show _ = V.str (SX.S (wAdd ++ ([32] ++ wNum (-n))))
  rw [wNum_neg h]
  rfl
theorem v_is {n : Int} : (V.str (("is " : Str) ++ SX.S (wNum n)) : V) = .str (SX.S (lineW (smW wIs [n]))) := by
  rw [s_is, SX_app]
  rfl
theorem v_rest {n : Int} : (V.str ((("rest " : Str) ++ SX.S (wNum n)) ++ (" " : Str) ++ SX.S (wNum n)) : V) = .str (SX.S (lineW (smW wRest [n, n]))) := by
  rw [s_rest, s_sp, SX_app, SX_app, SX_app]
  show _ = V.str (SX.S (wRest ++ ([32] ++ (wNum n ++ ([32] ++ wNum n)))))
  simp [wRest]
theorem v_one {u : List Nat} {ns : List Int} : (V.str (SX.S (lineW (smW u ns)) ++ (" 1" : Str)) : V) = .str (SX.S (lineW (u :: (ns.map wNum ++ [[49]])))) := by
  rw [s_b1, SX_app]
  have := line_snoc (u := [49]) (ws := smW u ns) (by unfold smW; simp)
  unfold smW at this
  rw [List.cons_append] at this
  rw [this]
  rfl
theorem sm_len {u : List Nat} {ns : List Int} (ok : LineOk (smW u ns)) (z : Str) (h : z.length ≤ 1000) : (SX.S (lineW (smW u ns))).length + z.length ≤ sizeLine := by
  have := ok.len
  rw [SX.S_len, sizeLine_eq]
  omega
theorem ok_one {u : List Nat} {ns : List Int} (w : WordOk u) (f : Few ns) (l : ns.length ≤ 20) : LineOk (u :: (ns.map wNum ++ [[49]])) := lineOk_app (ws := smW u ns) (u := [49]) (smW_ok w f l) (by unfold smW; rw [List.length_cons, List.length_map]; omega) (word_of (by decide))
theorem str_rd {n : Int} {H : Hp} {Q : VK} (h : n.natAbs < 10 ^ 6) (k : Q (.str (SX.S (wNum n))) H) : rStr [.int n] H Q := .inl ⟨n, rfl, log6 h, k⟩
abbrev s_sl : Stmt := top 76
abbrev N_sl : List Str := ["_law_hand_here", "_law_turn", "_law_letter_here", "_law_text", "_law_test_here", "_law_big", "_law_size", "_law_part"]
theorem sc_sl : FnScope N_sl ["_law_hand_here"] (defScope s_sl) := ⟨rfl, rfl, rfl, by decide +kernel, rfl, by decide +kernel, by decide +kernel⟩
theorem kp_sl (F : At K mg "_law_small_lines" s_sl) (N : Nb mg) (Gl : Keeps CX0 P w K mg base "_law_letter" 1 ["_law_a", "_law_b", "_law_wide"] spLet) (Gt : Keeps CX0 P w K mg base "_law_test" 1 ["_law_a", "_law_b", "_law_wide"] spTst) (Gwl : Keeps CX0 P w K mg base "write_letter" 2 ["letter"] spWr) (Gwt : Keeps CX0 P w K mg base "write_test" 2 ["test"] spWr)
    (Gs : Keeps CX0 P w K mg base "_law_read_small" 6 ["_law_text", "_law_is_letter"] (spSml K)) (G : Keeps CX0 P w K mg base "_law_draw" 2 ["_law_hand_here", "_law_many"] spDraw) : Keeps CX0 P w K mg base "_law_small_lines" 7 ["_law_hand_here"] spSl := by
  refine keeps_of F sc_sl (fun _ _ _ _ _ _ us hl => match us, hl with | [_], _ => rfl) (fun vs H Q E h => ?_) (fun f cdv A outer s H vs Q E hr h => ?_)
  · obtain ⟨p, c, rfl, _⟩ := h
    rfl
  · obtain ⟨p, c, rfl, hh, k⟩ := h
    have h1 : Room 1 (A.deeper (envOfC "_law_small_lines" (defScope s_sl) s.heap.objs.size f cdv)) := hr.mono (by decide)
    have h2 : Room 2 (A.deeper (envOfC "_law_small_lines" (defScope s_sl) s.heap.objs.size f cdv)) := hr.mono (by decide)
    refine ⟨_, (pss_cons (ps_for PassesOwn.never rfl (pi_range1 (by rfl) N.range (pa_cons pe_int pa_nil)) (pg_name (i := 1) sc_sl.nd rfl (by walk_at "lv")) (pss_cons (ps_set (i := 2) sc_sl.nd rfl (by walk_at "lv") (pe_k Gl h1 (by rfl) pass0 (pa_cons (pe_k G h2 (by rfl) pass0 (pa_cons (pv 0) (pa_cons pe_int pa_nil))) (pa_cons (pe_k G h2 (by rfl) pass0 (pa_cons (pv 0) (pa_cons pe_int pa_nil))) (pa_cons pe_int pa_nil)))))
        (pss_cons (ps_set (i := 3) sc_sl.nd rfl (by walk_at "lv") (pe_joinR pe_str (pe_lc (own := [("_law_part", 7)]) (g := gName 7) (tt := tYes) rfl sc_sl.nd (pi_seqV (pv 2)) (blkOk_by (N := N_sl) (sc := defScope s_sl) (by decide +kernel)) (fun _ _ _ _ _ => (pg_name (i := 7) sc_sl.nd rfl (by walk_at "lv"))) (fun _ _ _ _ _ => pts_nil) (fun _ _ _ _ _ => (pe_callTy (T := "str") (r := rStr) call_strA (by rfl) N.str (by decide +kernel) (pa_cons (pv 7) pa_nil))))))
        (pss_cons (ps_if (PW.pt (pw_or (pt_cmpR op_ne (pe_k Gwl h2 (by rfl) pass0 (pa_cons (pv 2) pa_nil)) (pv 3) (nomark _)) (pw_or1 (pt_cmpR (op_neD hr.units) (pe_k Gs hr (by rfl) pass0 (pa_cons (pv 3) (pa_cons pe_bl pa_nil))) (pe_tup (pa_cons pe_str (pa_cons (pv 2) pa_nil))) (nomark _))))) (pss_one (ps_ret pe_bl)) pss_nil)
        (pss_cons (ps_set (i := 4) sc_sl.nd rfl (by walk_at "lv") (pe_k Gt h1 (by rfl) pass0 (pa_cons (pe_k G h2 (by rfl) pass0 (pa_cons (pv 0) (pa_cons pe_int pa_nil))) (pa_cons (pe_k G h2 (by rfl) pass0 (pa_cons (pv 0) (pa_cons pe_int pa_nil))) (pa_cons pe_int pa_nil)))))
        (pss_cons (ps_set (i := 3) sc_sl.nd rfl (by walk_at "lv") (pe_joinR pe_str (pe_lc (own := [("_law_part", 7)]) (g := gName 7) (tt := tYes) rfl sc_sl.nd (pi_seqV (pv 4)) (blkOk_by (N := N_sl) (sc := defScope s_sl) (by decide +kernel)) (fun _ _ _ _ _ => (pg_name (i := 7) sc_sl.nd rfl (by walk_at "lv"))) (fun _ _ _ _ _ => pts_nil) (fun _ _ _ _ _ => (pe_callTy (T := "str") (r := rStr) call_strA (by rfl) N.str (by decide +kernel) (pa_cons (pv 7) pa_nil))))))
        (pss_cons (ps_if (PW.pt (pw_or (pt_cmpR op_ne (pe_k Gwt h2 (by rfl) pass0 (pa_cons (pv 4) pa_nil)) (pv 3) (nomark _)) (pw_or1 (pt_cmpR (op_neD hr.units) (pe_k Gs hr (by rfl) pass0 (pa_cons (pv 3) (pa_cons pe_bl pa_nil))) (pe_tup (pa_cons pe_str (pa_cons (pv 4) pa_nil))) (nomark _))))) (pss_one (ps_ret pe_bl)) pss_nil)
        (pss_cons (ps_if (pt_cmpR (op_neD hr.units) (pe_k Gs hr (by rfl) pass0 (pa_cons (pv 3) (pa_cons pe_bl pa_nil))) (pe_tup (pa_cons pe_str (pa_cons pe_int (pa_cons pe_str pa_nil)))) (nomark _)) (pss_one (ps_ret pe_bl)) pss_nil)
        (pss_one (ps_if (pt_cmpR (op_neD hr.units) (pe_k Gs hr (by rfl) pass0 (pa_cons (pe_op op_add_str (pv 3) pe_str) (pa_cons pe_bl pa_nil))) (pe_tup (pa_cons pe_str (pa_cons pe_int (pa_cons pe_str pa_nil)))) (nomark _)) (pss_one (ps_ret pe_bl)) pss_nil))))))))))
        (pss_cons (ps_set (i := 5) sc_sl.nd rfl (by walk_at "lv") (pe_callTy (T := "str") (r := rStr) call_strA (by rfl) N.str (by decide +kernel) (pa_cons (pe_op op_add pe_int (pe_k G h2 (by rfl) pass0 (pa_cons (pv 0) (pa_cons pe_int pa_nil)))) pa_nil)))
        (pss_cons (ps_if (PW.pt (pw_or (pt_cmpR (op_neD hr.units) (pe_k Gs hr (by rfl) pass0 (pa_cons (pe_op op_add_str pe_str (pv 5)) (pa_cons pe_bl pa_nil))) (pe_tup (pa_cons pe_str (pa_cons pe_bl pa_nil))) (nomark _)) (pw_or1 (pt_cmpR (op_neD hr.units) (pe_k Gs hr (by rfl) pass0 (pa_cons (pe_op op_add_str pe_str (pv 5)) (pa_cons pe_bl pa_nil))) (pe_tup (pa_cons pe_str (pa_cons pe_bl pa_nil))) (nomark _))))) (pss_one (ps_ret pe_bl)) pss_nil)
        (pss_cons (ps_set (i := 6) sc_sl.nd rfl (by walk_at "lv") (pe_callTy (T := "str") (r := rStr) call_strA (by rfl) N.str (by decide +kernel) (pa_cons (pe_op op_add pe_int (pe_k G h2 (by rfl) pass0 (pa_cons (pv 0) (pa_cons pe_int pa_nil)))) pa_nil)))
        (pss_cons (ps_if (pt_cmpR (op_neD hr.units) (pe_k Gs hr (by rfl) pass0 (pa_cons (pe_op op_add_str (pe_op op_add_str (pe_op op_add_str pe_str (pv 6)) pe_str) (pv 6)) (pa_cons pe_bl pa_nil))) (pe_tup (pa_cons pe_str (pa_cons pe_bl pa_nil))) (nomark _)) (pss_one (ps_ret pe_bl)) pss_nil)
        (pss_cons (ps_if (PW.pt (pw_or (pt_cmpR (op_neD hr.units) (pe_k Gs hr (by rfl) pass0 (pa_cons pe_int (pa_cons pe_bl pa_nil))) (pe_tup (pa_cons pe_str (pa_cons pe_int (pa_cons pe_str pa_nil)))) (nomark _)) (pw_or1 (pt_cmpR (op_neD hr.units) (pe_k Gs hr (by rfl) pass0 (pa_cons pe_non (pa_cons pe_bl pa_nil))) (pe_tup (pa_cons pe_str (pa_cons pe_int (pa_cons pe_str pa_nil)))) (nomark _))))) (pss_one (ps_ret pe_bl)) pss_nil)
        (pss_one (ps_ret (pe_and (pe_cmpR (op_eqD hr.units) (pe_k Gs hr (by rfl) pass0 (pa_cons pe_str (pa_cons pe_bl pa_nil))) (pe_tup (pa_cons pe_str (pa_cons pe_bl pa_nil))) (nomark _)) (pe_one (pe_cmpR (op_eqD hr.units) (pe_k Gs hr (by rfl) pass0 (pa_cons pe_str (pa_cons pe_bl pa_nil))) (pe_tup (pa_cons pe_str (pa_cons pe_int (pa_cons pe_str pa_nil)))) (nomark _)))))))))))), ?_⟩
    refine ⟨_, rfl, by decide, by decide, ?_⟩
    refine for_range (lo := 0) (n := 2) (fun i σ H2 => ∃ (x1 x2 x3 x4 : Option V), σ = [some (.ref p), x1, x2, x3, x4, none, none, none] ∧ HandC H2 p c ∧ But p H H2) ⟨none, none, none, none, rfl, hh, But.refl p H⟩ ?_ ?_
    · rintro i σ H2 hi ⟨x1, x2, x3, x4, rfl, hh2, b2⟩
      refine ⟨_, rfl, p, c, 8, rfl, hh2, ⟨by decide, by decide⟩, fun a H3 a0 a1 hh3 b3 => ?_⟩
      refine ⟨_, rfl, p, c, 1000, rfl, hh3, ⟨by decide, by decide⟩, fun b H4 b0 b1 hh4 b4 => ?_⟩
      refine ⟨a, b, rfl, ⟨a0, a1⟩, ⟨b0, b1⟩, fun t L H5 ok s5 e5 n5 => ?_⟩
      rw [L.vsE] at e5
      have hh5 := hh4.same s5
      have b25 := b2.trans (b3.trans (b4.trans (But.of s5)))
      have okL := smW_ok L.uOk (Lt.few ok) L.nsl
      have tp : t ≠ p := hh4.off n5
      clear hh2 hh3 hh4 b2 b3 b4 s5
      refine ⟨⟨_, rfl⟩, ?_⟩
      refine lc_parts (j := 2) (i := 7) rfl (.inr e5) (parts_small (Lt.few ok)) (by have := okL.2.1; omega) (fun _ => rfl) (fun _ => rfl) fun D H6 nD s6 eD => join_rd okL eD ?_
      refine ⟨_, rfl, t, _, _, rfl, .inr (s6 _ _ e5), parts_small (Lt.few ok), by have := L.nsl; unfold smW; rw [List.length_cons, List.length_map]; omega, fun x hx => by have := (okL.2.2 x hx).2; omega, fun H7 s7 => ?_⟩
      refine ⟨_, rfl, rfl, _, rfl, iteNS rfl ?_⟩
      refine ⟨_, rfl, ?_⟩
      dsimp only [tNil, tCons, tC]
      have s57 := s6.trans s7
      refine sml_good (hh5.same s57) L.uOk (Lt.few ok) L.nsl L.form (Lt.fit ok) fun t2 q H8 s8 e8 eq8 => ne_read (i := 2) L.uOk eq8 e8 (s8 _ _ (s57 _ _ e5)) rfl fun H9 s9 => ⟨_, rfl, iteF ?_⟩
      have s59 := s57.trans (s8.trans s9)
      have hh9 := hh5.same s59
      have b29 := b25.trans (But.of s59)
      clear hh5 b25 s57 s59 s8 s9 s6 s7 eq8 e8 eD nD
      -- a test
      refine ⟨_, rfl, p, c, 8, rfl, hh9, ⟨by decide, by decide⟩, fun a' K3 a0' a1' hk3 c3 => ?_⟩
      refine ⟨_, rfl, p, c, 1000, rfl, hk3, ⟨by decide, by decide⟩, fun b' K4 b0' b1' hk4 c4 => ?_⟩
      refine ⟨a', b', rfl, ⟨a0', a1'⟩, ⟨b0', b1'⟩, fun o T K5 okT s5 e6 n6 => ?_⟩
      rw [T.vsE] at e6
      have hk5 := hk4.same s5
      have b25 := b29.trans (c3.trans (c4.trans (But.of s5)))
      have okW := smW_ok T.uOk (Ts.few okT) T.nsl
      clear hh9 hk3 hk4 c3 c4 s5 b29
      refine ⟨⟨_, rfl⟩, ?_⟩
      refine lc_parts (j := 4) (i := 7) rfl (.inr e6) (parts_small (Ts.few okT)) (by have := okW.2.1; omega) (fun _ => rfl) (fun _ => rfl) fun D K6 nD s6 eD => join_rd okW eD ?_
      refine ⟨_, rfl, o, _, _, rfl, .inr (s6 _ _ e6), parts_small (Ts.few okT), by have := T.nsl; unfold smW; rw [List.length_cons, List.length_map]; omega, fun x hx => by have := (okW.2.2 x hx).2; omega, fun K7 s7 => ?_⟩
      refine ⟨_, rfl, rfl, _, rfl, iteNS rfl ?_⟩
      refine ⟨_, rfl, ?_⟩
      dsimp only [tNil, tCons, tC]
      have s57 := s6.trans s7
      refine sml_good (hk5.same s57) T.uOk (Ts.few okT) T.nsl T.form (Ts.fit okT) fun t2 q K8 s8 e8 eq8 => ne_read (i := 4) T.uOk eq8 e8 (s8 _ _ (s57 _ _ e6)) rfl fun K9 s9 => ⟨_, rfl, iteF ?_⟩
      have s59 := s57.trans (s8.trans s9)
      refine ⟨_, rfl, ?_⟩
      dsimp only [tNil, tCons, tC]
      refine sml_none (hk5.same s59) okW T.formN fun q K10 s10 e10 => ne_text e10 fun K11 s11 => ⟨_, rfl, iteF ?_⟩
      have s5b := s59.trans (s10.trans s11)
      refine ⟨_, rfl, _, _, rfl, rfl, sm_len okW _ (by rw [s_b1, SX.S_len]; decide), ?_⟩
      rw [v_one]
      dsimp only [tNil, tCons, tC]
      refine sml_none (hk5.same s5b) (ok_one T.uOk (Ts.few okT) T.nsl) T.formM fun q K12 s12 e12 => ne_text e12 fun K13 s13 => ⟨_, rfl, iteF ?_⟩
      have s5d := s5b.trans (s12.trans s13)
      exact ⟨_, _, _, _, rfl, hk5.same s5d, b25.trans (But.of s5d)⟩
    · rintro σ H2 ⟨x1, x2, x3, x4, rfl, hh2, b2⟩
      refine ⟨_, rfl, p, c, 900000, rfl, hh2, ⟨by decide, by decide⟩, fun r H3 r0 r1 hh3 b3 => ⟨_, _, rfl, rfl, ?_⟩⟩
      have fn : (21 + r).natAbs < 10 ^ 6 := by omega
      have f1 : Few [21 + r] := fun m hm => by rw [List.mem_singleton.mp hm]; exact fn
      have f2 : Few [-(21 + r)] := fun m hm => by rw [List.mem_singleton.mp hm, Int.natAbs_neg]; exact fn
      have l7 := wNum_len fn
      dsimp only [tNil]
      refine str_rd fn ?_
      refine ⟨_, rfl, _, _, rfl, rfl, by rw [s_add, SX.S_len, SX.S_len, sizeLine_eq]; show 5 + _ ≤ _; omega, ?_⟩
      rw [v_add (by omega)]
      dsimp only [tNil, tCons, tC]
      refine sml_far hh3 (word_of (by decide)) f2 (by show 1 ≤ 20; decide) (by show (wAdd, 1) ∈ fsL; decide) (far_add (by omega)) fun q H4 s4 e4 => ne_bey e4 fun H5 s5 => ⟨_, rfl, iteF ?_⟩
      have t5 := s4.trans s5
      refine ⟨_, rfl, _, _, rfl, rfl, by rw [s_is, SX.S_len, SX.S_len, sizeLine_eq]; show 3 + _ ≤ _; omega, ?_⟩
      rw [v_is]
      dsimp only [tNil, tCons, tC]
      refine sml_far (hh3.same t5) (word_of (by decide)) f1 (by show 1 ≤ 20; decide) (by show (wIs, 1) ∈ fsT; decide) (far_is (by omega)) fun q H6 s6 e6 => ne_bey e6 fun H7 s7 => ⟨_, rfl, iteF ?_⟩
      have t7 := t5.trans (s6.trans s7)
      have hh7 := hh3.same t7
      have b7 := b2.trans (b3.trans (But.of t7))
      clear hh3 b3 hh2 b2 t5 t7
      refine ⟨_, rfl, p, c, 6, rfl, hh7, ⟨by decide, by decide⟩, fun r2 H8 r20 r21 hh8 b8 => ⟨_, _, rfl, rfl, ?_⟩⟩
      have fn2 : (1 + r2).natAbs < 10 ^ 6 := by omega
      have f3 : Few [1 + r2, 1 + r2] := fun m hm => by
        simp only [List.mem_cons, List.not_mem_nil, or_false, or_self] at hm
        rw [hm]
        exact fn2
      have l72 := wNum_len fn2
      dsimp only [tNil]
      refine str_rd fn2 ?_
      refine ⟨_, rfl, _, _, rfl, rfl, by rw [s_rest, SX.S_len, SX.S_len, sizeLine_eq]; show 5 + _ ≤ _; omega, _, _, rfl, rfl, by rw [s_rest, s_sp, SX_app, SX.S_len, SX.S_len, List.length_append, sizeLine_eq]; show 5 + _ + 1 ≤ _; omega, _, rfl, _, _, rfl, rfl, by rw [s_rest, s_sp, SX_app, SX_app, SX.S_len, SX.S_len, List.length_append, List.length_append, sizeLine_eq]; show 5 + _ + 1 + _ ≤ _; omega, ?_⟩
      rw [v_rest]
      dsimp only [tNil, tCons, tC]
      refine sml_far hh8 (word_of (by decide)) f3 (by show 2 ≤ 20; decide) (by show (wRest, 2) ∈ fsT; decide) far_rest fun q H9 s9 e9 => ne_bey e9 fun H10 s10 => ⟨_, rfl, iteF ?_⟩
      have t10 := s9.trans s10
      refine sml_thing (K := K) (E := E0) (hh8.same t10) (.int 7) rfl fun q H11 s11 e11 => ne_text e11 fun H12 s12 => ⟨_, rfl, iteF ?_⟩
      have t12 := t10.trans (s11.trans s12)
      refine sml_thing (K := K) (E := E0) (hh8.same t12) .non rfl fun q H13 s13 e13 => ne_text e13 fun H14 s14 => ⟨_, rfl, iteF ?_⟩
      have t14 := t12.trans (s13.trans s14)
      have v0 : V.str "mod 0" = .str (SX.S (lineW (smW wMod [0]))) := by kernel_rfl
      have v1 : V.str "turn 1" = .str (SX.S (lineW (wTurn :: [[49]]))) := by kernel_rfl
      dsimp only [tNil, tCons, tC]
      rw [v0]
      refine sml_far (K := K) (E := E0) (hh8.same t14) (word_of (by decide)) (fun m hm => by rw [List.mem_singleton.mp hm]; decide) (by decide) (by show (wMod, 1) ∈ fsL; decide) (by kernel_rfl) fun q H15 s15 e15 => eq_bey e15 fun H16 s16 => ⟨_, rfl, iteT ?_⟩
      have t16 := t14.trans (s15.trans s16)
      rw [v1]
      refine sml_none (K := K) (E := E0) (hh8.same t16) ⟨by simp, by decide, fun x hx => word_of (by
        simp only [List.mem_cons, List.not_mem_nil, or_false] at hx
        rcases hx with rfl | rfl <;> decide)⟩ (by decide) fun q H17 s17 e17 => eq_text e17 fun H18 s18 => ?_
      have t18 := t16.trans (s17.trans s18)
      exact k _ (hh8.same t18) (b7.trans (b8.trans (But.of t18)))
end
end My
set_option Elab.async false
set_option linter.all false
set_option maxRecDepth 100000
set_option maxHeartbeats 8000000
namespace My
open PySem PySem.Spec PyProof.Rows L2
local macro_rules | `(tactic| walk_at "lv") => `(tactic| first | exact Or.inl rfl | exact Or.inr rfl)
/-! ### each telling has a form -/
theorem top_of {P : Int → Prop} {h n : Int} (hn : P n) (hb : ∀ m, h < m → ¬ P m) : ∃ v, P v ∧ ∀ m, v < m → ¬ P m := by
  generalize hk : (h - n).toNat = k
  induction k using Nat.strongRecOn generalizing n with
  | _ k ih =>
    by_cases c : ∃ m, n < m ∧ P m
    · obtain ⟨m, h1, h2⟩ := c
      have hm : m ≤ h := by
        rcases Int.lt_or_le h m with q | q
        · exact absurd h2 (hb m q)
        · exact q
      exact ih (h - m).toNat (by omega) h2 rfl
    · exact ⟨n, hn, fun m h1 h2 => c ⟨m, h1, h2⟩⟩
theorem bot_of {P : Int → Prop} {l n : Int} (hn : P n) (hb : ∀ m, m < l → ¬ P m) : ∃ v, P v ∧ ∀ m, m < v → ¬ P m := by
  obtain ⟨v, h1, h2⟩ := top_of (P := fun x => P (-x)) (h := -l) (n := -n) (by rw [Int.neg_neg]; exact hn) (fun m hm => hb _ (by omega))
  exact ⟨-v, h1, fun m hm hp => h2 (-m) (by omega) (by rw [Int.neg_neg]; exact hp)⟩
theorem form_ex {T : Tl} (ok : T.Ok) : ∃ lo hi d, IsForm T.has T.U T.D lo hi d := by
  obtain ⟨d, hd⟩ := least_ex T.m ok.pos ok.pu ok.pd
  by_cases c : ∀ n, T.has n = T.U n
  · exact ⟨_, _, _, form_none ok hd c⟩
  · obtain ⟨n, hn⟩ := Classical.not_forall.mp c
    obtain ⟨v, h1, h2⟩ := top_of (P := fun n => T.has n ≠ T.U n) (h := T.hi) hn (fun m hm z => z (Tl.above hm))
    have c2 : ¬ ∀ n, T.has n = T.D n := fun z => by
      have pm := ok.pos
      have e : ∀ n, T.U n = T.D n := fun n => by
        have hm : (0 : Int) < (T.m : Int) := by unfold Tl.m; omega
        have k0 := Int.emod_nonneg (n - (T.hi + 1)) (by omega : (T.m : Int) ≠ 0)
        have cg : (T.hi + 1 + (n - (T.hi + 1)) % (T.m : Int)) % (T.m : Int) = n % (T.m : Int) := by
          rw [Int.add_emod_emod]; congr 1; omega
        rw [← ok.pu.cong cg, ← ok.pd.cong cg, ← Tl.above (by omega), z]
      exact hn (by rw [z, e])
    obtain ⟨n2, hn2⟩ := Classical.not_forall.mp c2
    obtain ⟨b, h3, h4⟩ := bot_of (P := fun n => T.has n ≠ T.D n) (l := T.lo) hn2 (fun m hm z => z (Tl.below hm))
    exact ⟨_, _, _, form_some hd h1 (fun n hn => Classical.not_not.mp (h2 n hn)) h3 (fun n hn => Classical.not_not.mp (h4 n hn))⟩
theorem form_in {T : Tl} (dr : Drawn T) (h : -6 ≤ T.lo ∧ T.lo ≤ 6) : ∃ lo hi d, IsForm T.has T.U T.D lo hi d ∧ -20000 ≤ lo ∧ hi ≤ 20000 := by
  obtain ⟨lo, hi, d, fo⟩ := form_ex dr.ok
  have nr := form_near dr.ok fo
  have hh : T.hi = T.lo + T.cs.length - 1 := rfl
  have hm : T.m = T.us.length := rfl
  have := dr.m
  have := dr.c
  exact ⟨lo, hi, d, fo, by omega, by omega⟩
/-- what the law leans on -/
structure LawSrc (P : Program) (w : World) (K : PySem.W.Frag) (mg : Str → Option Value) (base : Heap) : Prop where
  n : Nb mg
  hand : Keeps CX0 P w K mg base "_law_hand" 1 ["_law_script"] (spHand K)
  td : Keeps CX0 P w K mg base "_law_telling_drawn" 3 ["_law_hand_here", "_law_far"] spTD
  rfs : Keeps CX0 P w K mg base "_law_refusals" 6 ["_law_hand_here", "_law_telling"] spRfs
  lh : Keeps CX0 P w K mg base "_law_lines_hold" 7 ["_law_hand_here", "_law_telling"] spLh
  sl : Keeps CX0 P w K mg base "_law_small_lines" 7 ["_law_hand_here"] spSl
section
variable {P : Program} {w : World} {K : PySem.W.Frag} {mg : Str → Option Value} {base : Heap}
/-! ### the law -/
def spLaw (K : PySem.W.Frag) : Sp := fun vs H Q _ => ∃ (a : Addr) (ns : List Int), vs = [.ref a] ∧ SqL K H a (ns.map V.int) ∧ ns.length ≤ 63 ∧ ∀ H', Q (.bl true) H'
abbrev s_law : Stmt := top 77
abbrev N_law : List Str := ["_law_script", "_law_hand_here", "_law_turn", "_law_telling"]
theorem sc_law : FnScope N_law ["_law_script"] (defScope s_law) := ⟨rfl, rfl, rfl, by decide +kernel, rfl, by decide +kernel, by decide +kernel⟩
theorem kp_law {fd : FuncData} (F : FunD K "law" "law" (defArgs s_law) (defBody s_law) (defScope s_law) [] [] (He.ga K "law") fd) (S : LawSrc P w K mg base) : FnOk P w K mg base CX0 8 (He.ga K "law") fd ["_law_script"] (spLaw K) := by
  refine F.ok sc_law (fun vs H Q E h => ?_) (fun cdv A outer s H vs Q E hr h => ?_)
  · obtain ⟨a, ns, rfl, _⟩ := h
    rfl
  · obtain ⟨a, ns, rfl, hS, hlen, k⟩ := h
    have hR : ∀ j, j ≤ 7 → Room j (A.deeper (envOfC "law" (defScope s_law) s.heap.objs.size (He.ga K "law") cdv)) := fun j hj => hr.mono hj
    have N := S.n
    have main : ∃ tt, PSs (cxOf CX0 P w K mg base N_law "law" (defScope s_law) (He.ga K "law") cdv A outer s H E).nox (defBody s_law) tt ∧ tt { nx := fun _ H' => Q .non H', rt := Q } (start N_law [.ref a]) H := by
      refine ⟨_, (pss_cons (ps_set (i := 1) sc_law.nd rfl (by walk_at "lv") (pe_k S.hand (hR 1 (by decide)) (by rfl) pass0 (pa_cons (pv 0) pa_nil)))
        (pss_cons (ps_for PassesOwn.never rfl (pi_range1 (by rfl) N.range (pa_cons pe_int pa_nil)) (pg_name (i := 2) sc_law.nd rfl (by walk_at "lv")) (pss_cons (ps_set (i := 3) sc_law.nd rfl (by walk_at "lv") (pe_k S.td (hR 3 (by decide)) (by rfl) pass0 (pa_cons (pv 1) (pa_cons pe_bl pa_nil))))
        (pss_one (ps_if (PW.pt (pw_or (pt_not (pt_val (pe_k S.rfs (hR 6 (by decide)) (by rfl) pass0 (pa_cons (pv 1) (pa_cons (pv 3) pa_nil))))) (pw_or1 (pt_not (pt_val (pe_k S.lh (hR 7 (by decide)) (by rfl) pass0 (pa_cons (pv 1) (pa_cons (pv 3) pa_nil)))))))) (pss_one (ps_ret pe_bl)) pss_nil))))
        (pss_one (ps_ret (pe_k S.sl (hR 7 (by decide)) (by rfl) pass0 (pa_cons (pv 1) pa_nil)))))), ?_⟩
      refine ⟨_, rfl, a, ns, rfl, hS, hlen, fun p c H1 np nc hh s1 => ?_⟩
      refine ⟨_, rfl, by decide, by decide, ?_⟩
      refine for_range (lo := 0) (n := 2) (fun i σ H2 => ∃ x y : Option V, σ = [some (.ref a), some (.ref p), x, y] ∧ HandC H2 p c) ⟨_, _, rfl, hh⟩ ?_ ?_
      · rintro i σ H2 hi ⟨x, y, rfl, h2⟩
        refine ⟨_, rfl, p, c, false, rfl, h2, fun t c' u' d' T H3 h3 b3 ta dr near => ?_⟩
        obtain ⟨fl, fh, fm, fo, l1, l2⟩ := form_in dr (near rfl)
        refine ⟨_, rfl, _, rfl, p, c, t, c', u', d', T, fl, fh, fm, rfl, h3, ta, dr, fo, l1, l2, fun H4 h4 b4 => ⟨_, rfl, ?_⟩⟩
        refine iteF ⟨_, rfl, _, rfl, p, c, t, c', u', d', T, fl, fh, fm, rfl, h4, TellAt.but h3 b4 ta, dr, fo, l1, l2, fun H5 h5 b5 => ⟨_, rfl, ?_⟩⟩
        exact iteF ⟨_, _, rfl, h5⟩
      · rintro σ H2 ⟨x, y, rfl, h2⟩
        exact ⟨_, rfl, p, c, rfl, h2, fun H3 _ _ => k H3⟩
    obtain ⟨tt, d, q⟩ := main
    exact ⟨tt, d.nox, q⟩
end
end My
set_option Elab.async false
set_option linter.all false
set_option maxRecDepth 100000
set_option maxHeartbeats 8000000
namespace My
open PySem PySem.Spec PyProof.Rows L2
mutual
theorem datB_ok {K : PySem.W.Frag} : ∀ (d : PyData) (v : Value), datB K d v = true → ∃ x, RelV x v ∧ ∀ H, Dp K H x d
  | .none, v, h => by
    cases v <;> unfold datB at h <;> first | exact ⟨.non, rfl, fun _ => .non⟩ | cases h
  | .bool b, v, h => by
    cases v <;> unfold datB at h <;> first | (have h := of_decide_eq_true h; subst h; exact ⟨.bl b, rfl, fun _ => .bl b⟩) | cases h
  | .int i, v, h => by
    cases v <;> unfold datB at h <;> first | (have h := of_decide_eq_true h; subst h; exact ⟨.int i, ⟨_, rfl⟩, fun _ => .int i⟩) | cases h
  | .str z, v, h => by
    cases v <;> unfold datB at h <;> first | (have h := of_decide_eq_true h; subst h; exact ⟨.str z, ⟨_, rfl⟩, fun _ => .str z⟩) | cases h
  | .list ds, v, h => by cases v <;> unfold datB at h <;> cases h
  | .dict ds, v, h => by cases v <;> unfold datB at h <;> cases h
  | .tuple ds, v, h => by
    cases v with
    | ref a =>
      unfold datB at h
      split at h
      · rename_i t dd its n sl lk
        obtain ⟨h1, h⟩ := and_ok h
        obtain ⟨h2, h3⟩ := and_ok h
        have h1 := of_decide_eq_true h1
        subst h1
        have h2 := Nat.le_of_ble_eq_true h2
        obtain ⟨xs, r, q⟩ := datsB_ok ds its.toList h3
        exact ⟨.ref a, rfl, fun H => .tup (.inr ⟨_, its, n, lk, rfl, rfl, Nat.le_trans h2 (by rw [sizeLine_eq]; decide), r⟩) (q H)⟩
      · cases h
    | _ => unfold datB at h; cases h
theorem datsB_ok {K : PySem.W.Frag} : ∀ (ds : List PyData) (vs : List Value), datsB K ds vs = true → ∃ xs, Vals xs vs ∧ ∀ H, DpAll K H xs ds
  | [], vs, h => by
    cases vs <;> unfold datsB at h <;> first | exact ⟨[], .nil, fun _ => .nil⟩ | cases h
  | d :: ds, vs, h => by
    cases vs with
    | nil => unfold datsB at h; cases h
    | cons v vs =>
      unfold datsB at h
      obtain ⟨h1, h2⟩ := and_ok h
      obtain ⟨x, r, q⟩ := datB_ok d v h1
      obtain ⟨xs, rs, qs⟩ := datsB_ok ds vs h2
      exact ⟨x :: xs, .cons r rs, fun H => .cons (q H) (qs H)⟩
end
theorem lot_txt {K : PySem.W.Frag} {mg : Str → Option Value} (h : lotB K = true) (c1 : PySem.W.specialIn K (.builtin "object.__class__") "__get__" = some (some (.builtin "getset_descriptor.__get__"))) (c2 : PySem.W.takesIn K (.builtin "object.__class__") = some true) (g : mg "Lot" = some (.ref (He.ga K "Lot"))) : LotTxt K mg (He.ga K "Lot") := by
  obtain ⟨h1, h⟩ := and_ok h
  obtain ⟨h2, h⟩ := and_ok h
  obtain ⟨h3, h⟩ := and_ok h
  obtain ⟨h6, h⟩ := and_ok h
  obtain ⟨h7, h⟩ := and_ok h
  obtain ⟨h8, h9⟩ := and_ok h
  have no : ∀ f, f ∈ (["low", "high", "inside", "modulus", "ups", "downs"] : List Str) → NoAttr K (He.ga K "Lot") f := fun f hf => He.noat_ok (List.all_eq_true.mp h2 f hf)
  exact ⟨He.cls_ok h1, no _ (by decide), no _ (by decide), no _ (by decide), no _ (by decide), no _ (by decide), no _ (by decide), g, of_decide_eq_true h6, c1, c2, of_decide_eq_true h7, of_decide_eq_true h8, of_decide_eq_true h9⟩
/-! ### what the law stands on -/
theorem fact {K : PySem.W.Frag} (h : facts K = true) {i : Nat} {b : Bool} (e : (fL K)[i]? = some b) : b = true := List.all_eq_true.mp h b (List.mem_of_getElem? e)
theorem law_src {P : Program} {w : World} {K : PySem.W.Frag} {h : Heap} {mg : Str → Option Value} (X : K.In h) (G : h.Ns mainGlobals mg) (b1 : facts K = true) (c : He5.SaysA [] fns K) (base : Heap) : LawSrc P w K mg base := by
  have fr : ∀ x, x ∈ blts → mg x = none := fun x hx => He.free_ok X G (List.all_eq_true.mp (fact b1 (i := 0) rfl) x hx)
  have gl : ∀ x, x ∈ gnames → mg x = some (.ref (He.ga K x)) := fun x hx => He.glo_ok X G (List.all_eq_true.mp (fact b1 (i := 1) rfl) x hx)
  have at_ : ∀ (i : Nat) (x : Str) (st : Stmt), fns[i]? = some (dG x st) → x ∈ gnames → At K mg x st := fun i x st hi hm => ⟨gl _ hm, c.def_ i (d := dG x st) hi⟩
  have am : ∀ (i : Nat) (C m q : Str) (st : Stmt), fns[i]? = some (dM C m q st) → AtM K (He.ga K C) (He.ma K (He.ga K C) m) m q st := fun i C m q st hi => c.def_ i (d := dM C m q st) hi
  have N : Nb mg := ⟨fr _ (by decide), fr _ (by decide), fr _ (by decide), fr _ (by decide), fr _ (by decide), fr _ (by decide), fr _ (by decide), fr _ (by decide), fr _ (by decide), fr _ (by decide), fr _ (by decide), fr _ (by decide), fr _ (by decide), fr _ (by decide)⟩
  have cn := of_decide_eq_true (fact b1 (i := 2) rfl)
  have ct := of_decide_eq_true (fact b1 (i := 3) rfl)
  have gBE := He.glo_ok X G (fact b1 (i := 4) rfl)
  have mFARTHEST := He.int_ok X G (fact b1 (i := 5) rfl)
  have mMOST_MODULUS := He.int_ok X G (fact b1 (i := 6) rfl)
  have mMOST := He.int_ok X G (fact b1 (i := 7) rfl)
  have mMOST_REST := He.int_ok X G (fact b1 (i := 8) rfl)
  have mMOST_DIGITS := He.int_ok X G (fact b1 (i := 9) rfl)
  have mDIGITS := He.str_ok X G (fact b1 (i := 10) rfl)
  have gLETTER_FORMS := He.glo_ok X G (fact b1 (i := 11) rfl)
  have dLETTER_FORMS : ∀ H, Dp K H (.ref (He.ga K "LETTER_FORMS")) (.tuple [.tuple [.str "set", .int 1], .tuple [.str "add", .int 1], .tuple [.str "turn", .int 0], .tuple [.str "mod", .int 1]]) := by
    obtain ⟨x, r, q⟩ := datB_ok _ _ (fact b1 (i := 12) rfl)
    cases r.inj (show RelV (.ref (He.ga K "LETTER_FORMS")) (.ref (He.ga K "LETTER_FORMS")) from rfl)
    exact q
  have gTEST_FORMS := He.glo_ok X G (fact b1 (i := 13) rfl)
  have dTEST_FORMS : ∀ H, Dp K H (.ref (He.ga K "TEST_FORMS")) (.tuple [.tuple [.str "below", .int 1], .tuple [.str "is", .int 1], .tuple [.str "rest", .int 2]]) := by
    obtain ⟨x, r, q⟩ := datB_ok _ _ (fact b1 (i := 14) rfl)
    cases r.inj (show RelV (.ref (He.ga K "TEST_FORMS")) (.ref (He.ga K "TEST_FORMS")) from rfl)
    exact q
  have T_BadLot : ExF K mg "BadLot" "BookError" ["what"] := exB_ok X G (fact b1 (i := 15) rfl)
  have KT_BadLot : KeepsI P w K mg base "BadLot" ["what"] := ki_BadLot (c.def_ 55 (d := dM "BadLot" "__init__" "BadLot.__init__" (inClass (top 11) 0)) rfl) T_BadLot
  have EA_BadLot : ErrA P w K mg base "BadLot" ["what"] := ⟨T_BadLot, KT_BadLot⟩
  have EF_BadLot : ErrF P w K mg base "BadLot" ["what"] := ⟨EA_BadLot, xfB_ok (fact b1 (i := 16) rfl), of_decide_eq_true (fact b1 (i := 17) rfl)⟩
  have T_TooLong : ExF K mg "TooLong" "BookError" ["most"] := exB_ok X G (fact b1 (i := 18) rfl)
  have KT_TooLong : KeepsI P w K mg base "TooLong" ["most"] := ki_TooLong (c.def_ 56 (d := dM "TooLong" "__init__" "TooLong.__init__" (inClass (top 12) 0)) rfl) T_TooLong
  have EA_TooLong : ErrA P w K mg base "TooLong" ["most"] := ⟨T_TooLong, KT_TooLong⟩
  have EF_TooLong : ErrF P w K mg base "TooLong" ["most"] := ⟨EA_TooLong, xfB_ok (fact b1 (i := 19) rfl), of_decide_eq_true (fact b1 (i := 20) rfl)⟩
  have T_BadText : ExF K mg "BadText" "BookError" ["line", "what"] := exB_ok X G (fact b1 (i := 21) rfl)
  have KT_BadText : KeepsI P w K mg base "BadText" ["line", "what"] := ki_BadText (c.def_ 57 (d := dM "BadText" "__init__" "BadText.__init__" (inClass (top 13) 0)) rfl) T_BadText
  have EA_BadText : ErrA P w K mg base "BadText" ["line", "what"] := ⟨T_BadText, KT_BadText⟩
  have EF_BadText : ErrF P w K mg base "BadText" ["line", "what"] := ⟨EA_BadText, xfB_ok (fact b1 (i := 22) rfl), of_decide_eq_true (fact b1 (i := 23) rfl)⟩
  have T_BadLetter : ExF K mg "BadLetter" "BookError" [] := exB_ok X G (fact b1 (i := 24) rfl)
  have E1_BadLetter : Err1 K mg "BadLetter" := ⟨T_BadLetter, ⟨T_BadLetter.ga, T_BadLetter.gg, T_BadLetter.exC, T_BadLetter.dict, T_BadLetter.ca, cn, ct, T_BadLetter.mo⟩, of_decide_eq_true (fact b1 (i := 25) rfl), gBE⟩
  have T_BadTest : ExF K mg "BadTest" "BookError" [] := exB_ok X G (fact b1 (i := 26) rfl)
  have E1_BadTest : Err1 K mg "BadTest" := ⟨T_BadTest, ⟨T_BadTest.ga, T_BadTest.gg, T_BadTest.exC, T_BadTest.dict, T_BadTest.ca, cn, ct, T_BadTest.mo⟩, of_decide_eq_true (fact b1 (i := 27) rfl), gBE⟩
  have R_exmOne_BadLot_BadText := of_decide_eq_true (fact b1 (i := 28) rfl)
  have R_kitOne_BadLot_BadText := of_decide_eq_true (fact b1 (i := 29) rfl)
  have R_exmOne_BadLetter_BadText := of_decide_eq_true (fact b1 (i := 30) rfl)
  have R_exmOne_BadTest_BadText := of_decide_eq_true (fact b1 (i := 31) rfl)
  have R_exmOne_BadLetter_BadTest := of_decide_eq_true (fact b1 (i := 32) rfl)
  have R_exmOne_BadTest_BadLetter := of_decide_eq_true (fact b1 (i := 33) rfl)
  have R_kitOne_BadLetter_BadLetter := of_decide_eq_true (fact b1 (i := 34) rfl)
  have R_kitOne_BadTest_BadLetter := of_decide_eq_true (fact b1 (i := 35) rfl)
  have lb := id (fact b1 (i := 36) rfl)
  have gL0 := id (fact b1 (i := 37) rfl)
  have gL := He.glo_ok X G gL0
  have T := lot_txt lb cn ct gL
  have M : Mk K (He.ga K "Lot") (He.ma K (He.ga K "Lot") "__init__") := by
    obtain ⟨_, l⟩ := and_ok lb
    obtain ⟨_, l⟩ := and_ok l
    obtain ⟨l3, _⟩ := and_ok l
    exact He.mkr_ok l3
  have KI : KeepsM P w K mg base (He.ma K (He.ga K "Lot") "__init__") 1 ["self", "low", "high", "inside", "modulus", "ups", "downs"] (spLotI (He.ga K "Lot")) := kp_lotI (am 58 _ _ _ _ rfl) T N
  have SL : Lots P w K mg base := ⟨T, M, KI, T_TooLong, KT_TooLong⟩
  have SM : Smalls K mg := ⟨E1_BadLetter, E1_BadTest, R_exmOne_BadLetter_BadText, R_exmOne_BadTest_BadText, R_exmOne_BadLetter_BadTest, R_exmOne_BadTest_BadLetter, R_kitOne_BadLetter_BadLetter, R_kitOne_BadTest_BadLetter⟩
  have G1 : Keeps CX0 P w K mg base "_law_hand" 1 ["_law_script"] (spHand K) := kp_hand (at_ 0 _ _ rfl (by decide)) N.int N.enumerate N.abs
  have G2 : Keeps CX0 P w K mg base "_law_mix" 1 ["_law_number", "_law_turn"] spMix := kp_mix (at_ 3 _ _ rfl (by decide)) N.int
  have G3 : Keeps CX0 P w K mg base "_law_draw" 2 ["_law_hand_here", "_law_many"] spDraw := kp_draw (at_ 2 _ _ rfl (by decide)) G2 N.int N.len
  have G4 : Keeps CX0 P w K mg base "_law_telling_drawn" 3 ["_law_hand_here", "_law_far"] spTD := kp_td (at_ 1 _ _ rfl (by decide)) G3 N
  have G5 : Keeps CX0 P w K mg base "_law_parts" 1 ["_law_telling"] spParts := kp_parts (at_ 5 _ _ rfl (by decide)) N
  have G6 : Keeps CX0 P w K mg base "_law_as" 3 ["_law_hand_here", "_law_rows"] spAs := kp_as (at_ 6 _ _ rfl (by decide)) N G3
  have G7 : Keeps CX0 P w K mg base "_law_number_odd" 3 ["_law_hand_here"] spNo := kp_no (at_ 7 _ _ rfl (by decide)) G3
  have G8 : Keeps CX0 P w K mg base "_law_spoilt" 4 ["_law_hand_here", "_law_row", "_law_low", "_law_high"] spSp := kp_spo (at_ 8 _ _ rfl (by decide)) N G3 G7 G6
  have G9 : Keeps CX0 P w K mg base "is_whole" 1 ["thing"] (spWhT K) := kp_whT (at_ 12 _ _ rfl (by decide)) N
  have G10 : Keeps (CX P w) P w K mg base "_check_core" 3 ["low", "high"] (spCoreT K) := kp_coreT (at_ 11 _ _ rfl (by decide)) EA_BadLot mFARTHEST G9
  have G11 : Keeps CX0 P w K mg base "is_whole_from" 2 ["thing", "low", "high"] (spWfT K) := kp_wfT (at_ 14 _ _ rfl (by decide)) G9
  have G12 : Keeps CX0 P w K mg base "is_sequence" 1 ["thing"] (spSeqR K) := kp_seqR (at_ 15 _ _ rfl (by decide)) N
  have G13 : Keeps CX0 P w K mg base "_are_unlike_from" 3 ["numbers", "low", "high"] (spUnlT K) := kp_unlT (at_ 13 _ _ rfl (by decide)) G11 G12
  have G14 : Keeps CX0 P w K mg base "_flags" 1 ["low", "high", "numbers"] spFlags := kp_flags (at_ 17 _ _ rfl (by decide))
  have G15 : Keeps CX0 P w K mg base "_repeats" 1 ["flags", "length"] spRep := kp_rep (at_ 19 _ _ rfl (by decide))
  have G16 : Keeps CX0 P w K mg base "_least_modulus" 2 ["ups", "downs"] spLM := kp_lm (at_ 18 _ _ rfl (by decide)) G15 N
  have G17 : Keeps CX0 P w K mg base "_greatest_wrong" 1 ["low", "core", "ups", "downs"] spGW := kp_gw (at_ 20 _ _ rfl (by decide)) N
  have G18 : Keeps CX0 P w K mg base "_least_wrong" 1 ["low", "core", "ups", "downs"] spLW := kp_lw (at_ 21 _ _ rfl (by decide)) N
  have G19 : Keeps CX0 P w K mg base "_places_of" 1 ["flags"] spPlaces := kp_places (at_ 22 _ _ rfl (by decide)) N
  have G20 : Keeps (CX P w) P w K mg base "_lot_of" 3 ["low", "high", "inside", "modulus", "ups", "downs"] (spLotOf K) := kp_lotof (at_ 16 _ _ rfl (by decide)) N SL mFARTHEST G14 G16 G17 G18 G19
  have G21 : Keeps (CX P w) P w K mg base "make_lot" 4 ["low", "high", "inside", "modulus", "ups", "downs"] (spMakeT K) := kp_makeT (at_ 10 _ _ rfl (by decide)) EA_BadLot mMOST_MODULUS G10 G13 G11 G20
  have G22 : Keeps CX0 P w K mg base "_law_refused" 5 ["_law_parts_here"] spRef := kp_ref (at_ 9 _ _ rfl (by decide)) N EF_BadLot ⟨gBE, cn, ct⟩ T_BadText.g R_kitOne_BadLot_BadText G21
  have G23 : Keeps CX0 P w K mg base "_law_refusals" 6 ["_law_hand_here", "_law_telling"] spRfs := kp_rfs (at_ 4 _ _ rfl (by decide)) N G5 G3 G6 G7 G8 G22
  have G24 : Keeps CX0 P w K mg base "_law_has" 1 ["_law_telling", "_law_number"] spHas := kp_has (at_ 25 _ _ rfl (by decide)) N
  have G25 : Keeps CX0 P w K mg base "_law_form" 2 ["_law_telling"] spForm := kp_form (at_ 24 _ _ rfl (by decide)) N G24
  have G26 : Keeps CX0 P w K mg base "write_lot" 1 ["lot"] (spWlo (He.ga K "Lot")) := kp_wlo (at_ 26 _ _ rfl (by decide)) T N
  have G27 : Keeps CX0 P w K mg base "is_whole" 1 ["thing"] spWhole := kp_whole (at_ 12 _ _ rfl (by decide)) N
  have G28 : Keeps CX0 P w K mg base "_check_core" 2 ["low", "high"] spCore := kp_core (at_ 11 _ _ rfl (by decide)) G27 mFARTHEST
  have G29 : Keeps CX0 P w K mg base "is_whole_from" 2 ["thing", "low", "high"] spWholeF := kp_wholeF (at_ 14 _ _ rfl (by decide)) G27
  have G30 : Keeps CX0 P w K mg base "is_sequence" 1 ["thing"] spSeq := kp_seq (at_ 15 _ _ rfl (by decide)) N
  have G31 : Keeps CX0 P w K mg base "_are_unlike_from" 3 ["numbers", "low", "high"] spUnl := kp_unl (at_ 13 _ _ rfl (by decide)) G29 G30
  have G32 : Keeps (CX P w) P w K mg base "make_lot" 4 ["low", "high", "inside", "modulus", "ups", "downs"] (spMake K) := kp_make (at_ 10 _ _ rfl (by decide)) mMOST_MODULUS G28 G31 G29 G20
  have G33 : Keeps CX0 P w K mg base "_law_lot_of" 5 ["_law_telling"] (spLo K) := kp_lo (at_ 27 _ _ rfl (by decide)) G5 G32
  have G34 : Keeps CX0 P w K mg base "_law_line" 1 ["_law_parts_here"] spLin := kp_lin (at_ 28 _ _ rfl (by decide)) N
  have G35 : Keeps CX0 P w K mg base "_law_turned" 3 ["_law_hand_here", "_law_rows"] spTurned := kp_turned (at_ 29 _ _ rfl (by decide)) G3 N
  have G36 : Keeps CX0 P w K mg base "plain_number" 1 ["word"] spPn := kp_pn (at_ 34 _ _ rfl (by decide)) N mDIGITS mMOST_DIGITS
  have G37 : Keeps CX0 P w K mg base "plain_numbers" 2 ["words"] spPns := kp_pns (at_ 33 _ _ rfl (by decide)) N G36
  have G38 : Keeps CX0 P w K mg base "description_of_words" 3 ["words"] spDow := kp_dow (at_ 32 _ _ rfl (by decide)) N G37
  have G39 : Keeps (CX P w) P w K mg base "read_lot" 5 ["text"] (spRdLot K) := kp_rdlot (at_ 31 _ _ rfl (by decide)) N EA_BadText G38 G21
  have G40 : Keeps CX0 P w K mg base "_law_read" 6 ["_law_text"] (spLrd K) := kp_lrd (at_ 30 _ _ rfl (by decide)) EF_BadLot EF_BadText R_exmOne_BadLot_BadText G39
  have G41 : Keeps CX0 P w K mg base "_law_whole" 1 ["_law_thing"] spWhole := kp_lwh (at_ 36 _ _ rfl (by decide)) N
  have G42 : Keeps CX0 P w K mg base "_law_row_of" 2 ["_law_thing", "_law_low", "_law_high"] spRow := kp_row (at_ 37 _ _ rfl (by decide)) G41 N
  have G43 : Keeps CX0 P w K mg base "_law_seen" 1 ["_law_lot"] (spSeen (He.ga K "Lot")) := kp_seen (at_ 38 _ _ rfl (by decide)) T
  have G44 : Keeps CX0 P w K mg base "_law_is_form" 3 ["_law_lot", "_law_form_here"] (spIsF (He.ga K "Lot")) := kp_isf (at_ 35 _ _ rfl (by decide)) T N G41 G42 G43
  have G45 : Keeps CX0 P w K mg base "_law_lines_hold" 7 ["_law_hand_here", "_law_telling"] spLh := kp_lh (at_ 23 _ _ rfl (by decide)) N G5 G25 G26 G33 G34 G35 G40 G44 G3
  have G46 : Keeps CX0 P w K mg base "_law_letter" 1 ["_law_a", "_law_b", "_law_wide"] spLet := kp_let (at_ 40 _ _ rfl (by decide)) N
  have G47 : Keeps CX0 P w K mg base "_law_test" 1 ["_law_a", "_law_b", "_law_wide"] spTst := kp_tst (at_ 41 _ _ rfl (by decide)) N
  have G48 : Keeps CX0 P w K mg base "_written" 1 ["item"] spWr := kp_wr (at_ 43 _ _ rfl (by decide)) N
  have G49 : Keeps CX0 P w K mg base "write_letter" 2 ["letter"] spWr := kp_wrl (at_ 42 _ _ rfl (by decide)) G48
  have G50 : Keeps CX0 P w K mg base "write_test" 2 ["test"] spWr := kp_wrt (at_ 44 _ _ rfl (by decide)) G48
  have G51 : Keeps CX0 P w K mg base "_item_of_words" 3 ["words", "forms"] (spIow K) := kp_iow (at_ 48 _ _ rfl (by decide)) N G37
  have G52 : Keeps (CX P w) P w K mg base "_read_item" 4 ["text", "forms"] (spRi K) := kp_ri (at_ 47 _ _ rfl (by decide)) N EA_BadText G51
  have G53 : Keeps CX0 P w K mg base "is_sequence" 1 ["thing"] (spSeqT K) := kp_seqT (at_ 15 _ _ rfl (by decide)) N
  have G54 : Keeps CX0 P w K mg base "fits_letter" 3 ["letter"] (spFitT K flT) := kp_flT (at_ 50 _ _ rfl (by decide)) N mMOST mMOST_REST G53 G11
  have G55 : Keeps (CX P w) P w K mg base "check_letter" 4 ["letter"] (spChT K flT "BadLetter") := kp_chl (at_ 49 _ _ rfl (by decide)) N E1_BadLetter G54
  have G56 : Keeps (CX P w) P w K mg base "read_letter" 5 ["text"] (spRd K fsL flT "BadLetter") := kp_rdl (at_ 46 _ _ rfl (by decide)) ⟨gLETTER_FORMS, fun H => by have := dLETTER_FORMS H; exact this⟩ G52 G55
  have G57 : Keeps CX0 P w K mg base "fits_test" 3 ["test"] (spFitT K ftT) := kp_ftT (at_ 53 _ _ rfl (by decide)) N mMOST mMOST_REST G53 G11
  have G58 : Keeps (CX P w) P w K mg base "check_test" 4 ["test"] (spChT K ftT "BadTest") := kp_cht (at_ 52 _ _ rfl (by decide)) N E1_BadTest G57
  have G59 : Keeps (CX P w) P w K mg base "read_test" 5 ["text"] (spRd K fsT ftT "BadTest") := kp_rdt (at_ 51 _ _ rfl (by decide)) ⟨gTEST_FORMS, fun H => by have := dTEST_FORMS H; exact this⟩ G52 G58
  have G60 : Keeps CX0 P w K mg base "_law_read_small" 6 ["_law_text", "_law_is_letter"] (spSml K) := kp_sml (at_ 45 _ _ rfl (by decide)) N EF_BadText SM G56 G59
  have G61 : Keeps CX0 P w K mg base "_law_small_lines" 7 ["_law_hand_here"] spSl := kp_sl (at_ 39 _ _ rfl (by decide)) N G46 G47 G49 G50 G60 G3
  exact ⟨N, G1, G4, G23, G45, G61⟩
theorem law_at {K : PySem.W.Frag} {h : Heap} {mg : Str → Option Value} (X : K.In h) (G : h.Ns mainGlobals mg) (b1 : facts K = true) : mg "law" = some (.ref (He.ga K "law")) :=
  He.glo_ok X G (List.all_eq_true.mp (fact b1 (i := 1) rfl) "law" (by decide))
theorem binds_law {K : PySem.W.Frag} {fd : FuncData} (F : FunD K "law" "law" (defArgs s_law) (defBody s_law) (defScope s_law) [] [] (He.ga K "law") fd) (s : Shared) (u : Value) : BindsTo s fd ⟨[u], []⟩ [("_law_script", u)] :=
  FunD.bindsA (ps := ["_law_script"]) F (fun _ _ _ _ _ _ us hl => match us, hl with | [_], _ => rfl) s [u] rfl
end My
set_option Elab.async false
set_option linter.all false
set_option maxRecDepth 100000
set_option maxHeartbeats 8000000
open PySem PySem.W PySem.Calls PyProof.Rows
theorem PySem.Challenge.cw_truebooks_k03_lots_refused_and_read_back_holds : PySem.Challenge.rw_truebooks_k03_lots_refused_and_read_back.Holds := by
  w_on; o_law
  refine HandSHeadRun.head_imp (r := My.R) (q := view My.R.prog [0, 77]) (H := My.hk) (ob := My.ob) (M := 12000) (loose := My.looseN) (d := HandSHeadRun.topDef My.R.prog 77) (kwd := []) My.ob_eq
    My.run (by kernel_rfl) (by kernel_rfl) (by kernel_rfl) (by rfl) (by first | assumption | decide +kernel) (by decide +kernel) ⟨rfl, rfl, rfl, rfl, rfl, by decide +kernel⟩ ?hw ?hc
  case hw => w_witness2
  case hc =>
    refine L2.walk_ofE (l := PySem.Challenge.rw_truebooks_k03_lots_refused_and_read_back) (n := 63) (k := 8) (x := "_law_script") (CX := L2.CX0) rfl (by decide) (by kernel_rfl) ⟨rfl, by decide, by decide⟩ ?F (fun _ _ _ _ z => z)
    intro w mg fa h Y G hmg0
    obtain ⟨K, KX, c⟩ := Y
    have c1 : My.facts K = true := congrArg (fun z : My.AlM => z.1) c
    have c2 : He5.SaysA [] My.fns K := congrArg (fun z : My.AlM => z.2) c
    have hmg : mg ("law" : PySem.Str) = some (.ref fa) := by
      have e : (HandSHeadRun.topDef My.R.prog 77).name = ("law" : PySem.Str) := by kernel_rfl
      rw [← e]
      exact hmg0
    obtain ⟨fd0, F0⟩ := c2.def_ 54 (d := My.dG "law" My.s_law) rfl
    have ea : fa = He.ga K "law" := by
      have m0 := My.law_at KX G c1
      rw [hmg] at m0
      exact Value.ref.inj (Option.some.inj m0)
    subst ea
    exact ⟨K, fd0, My.spLaw K, KX, fun s u => My.binds_law F0 s u, fun H a ns hl _ hS => ⟨a, ns, rfl, hS, hl, fun _ => rfl⟩, fun base _ _ => My.kp_law F0 (My.law_src KX G c1 c2 base)⟩
