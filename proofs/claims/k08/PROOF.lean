import PyProof.Rows.All
import Wide.All
import OpenK.AllK
import HandS.Exc
import HandS.ExcInit
import HandS.ExcField
import HandS.Head0
import HandS.Head1
import HandS.Head2
import HandS.HeadEnd
import HandS.HeadHook1
import HandS.HeadHook2
import PySem.Challenge.RW_truebooks_k08_whole_machines_and_rooms_t
import HandS.NoneIn
import HandS.OwnEq
import HandS.Property
import HandS.Flow
import HandS.HeadNt
import HandS.Head3
import Wide.FinOn
import HandS.ForMost
import HandS.Wide
import HandS.Walk
import HandS.Defaults
import HandS.ExcIs
import KE.KExcIs
import HandS.ExcValue
import HandS.IsInst
import HandS.TryOnly
import HandS.ExcOwn
import HandS.WordsExc
import HandS.HotCalls
import HandS.DictComp
import HandS.Comp
import KE.KMathGC
import HandS.Deep
import HandS.Conv
import HandS.Dict
import KE.KeyNested
import KE.KDictKeyed
import HandS.List
import KE.GoesEnum
import HandS.Iter
import HandS.Gcd
import HandS.Codes
import HandS.Style
set_option Elab.async false
set_option linter.all false
set_option maxRecDepth 100000
set_option maxHeartbeats 8000000
namespace My
open PySem PySem.Spec PyProof.Rows L2
def top (i : Nat) : Stmt := PySem.Challenge.pw_truebooks_k08_whole_machines_and_rooms_t.main.body.getD i (.Pass ⟨0, 0, 0, 0⟩)
/-- the class at C: its name, its row of bases -/
def clsB (K : PySem.W.Frag) (C : Addr) (nm : Str) (bm : List Value) : Bool := match K.lookup C with
  | some ⟨.type t, _, .cls cd, sl⟩ => decide (t = "type") && (match cd.mro, sl.toList with
    | .ref C' :: r, [_, _, _, _, some (.builtin n), _] => decide (C' = C) && (decide (n = "ValueError.__new__") && (!cd.hasDel && (cd.hasDict && (decide (cd.name = nm) && decide (r = bm)))))
    | _, _ => false)
  | _ => false
def exB (K : PySem.W.Frag) (b : Str) (p : Str × List Str) : Bool :=
  (He.Fa.glo p.1).ok K && (clsB K (He.ga K p.1) p.1 (.ref (He.ga K b) :: He.veBase) && (decide (PySem.W.findIn K (.ref (He.ga K p.1)) "__setattr__" = some (some (.builtin "object.__setattr__"))) &&
  (decide (PySem.W.subIn K (.ref (He.ga K p.1)) (.type "BaseException") = some true) && (PySem.W.keepIn K (.ref (He.ga K p.1)) && (decide (PySem.W.findIn K (.ref (He.ga K p.1)) "__getattribute__" = some (some (.builtin "BaseException.__getattribute__"))) &&
  (decide (PySem.W.findIn K (.ref (He.ga K p.1)) "__getattr__" = some none) && (decide (PySem.W.findIn K (.ref (He.ga K p.1)) "__class__" = some (some (.builtin "object.__class__"))) && (decide (PySem.W.mroIn K (He.ga K p.1) (.type "object") = some true) &&
  ((p.2.all fun f => decide (PySem.W.findIn K (.ref (He.ga K p.1)) f = some none)) && (decide (PySem.W.kitOne K (.ref (He.ga K p.1)) (.ref (He.ga K b)) = some true) && (decide (PySem.W.kitOne K (.ref (He.ga K p.1)) (.type "ValueError") = some true) && (decide (PySem.W.exmOne K (.ref (He.ga K p.1)) (.ref (He.ga K b)) = some true) &&
  (match p.2 with
    | [] => PySem.W.excIn K (He.ga K p.1) He.veBase "ValueError.__new__"
    | _ => decide (PySem.W.findIn K (.ref (He.ga K p.1)) "__init__" = some (some (.ref (He.ma K (He.ga K p.1) "__init__")))) && decide (PySem.W.typeIn K (.ref (He.ma K (He.ga K p.1) "__init__")) = some (.type "function")))))))))))))))
def looseN : List Str := (["lcm", "is_whole", "is_whole_from", "is_sequence", "is_sequence_of", "BookError", "BadMove", "BadMachine", "MOST", "MOST_REST", "fits_letter", "fits_test", "do_letter", "passes", "MOST_STATIONS"] : List Str) ++ (["MOST_STARTS", "MOST_ARROWS", "FARTHEST_START", "fits_move", "check_move", "move_number", "Machine", "_checked_starts", "_is_start", "_checked_arrows", "_is_arrow", "_letters_and_tests", "_rim_of", "_block_of", "_leaving"] : List Str) ++ (["room_of", "number_of", "_law_hand", "_law_mixed", "_law_draw", "_law_pick", "_law_whole", "_law_value", "_law_letter", "_law_test", "_law_deed", "_law_passes", "_law_moved", "_law_move", "_law_shape"] : List Str) ++ (["_law_rings", "_law_machine", "_law_rim", "_law_both_divide", "_law_block", "_law_room", "_law_shown", "_law_same", "_law_told", "_law_move_told", "_law_rooms_hold", "_law_moves_hold", "_law_odd_move", "_law_odd_start", "_law_odd_arrow"] : List Str) ++ (["_law_with_odd", "_law_refusals_hold", "_law_great_holds"] : List Str)
def dG (x : Str) (st : Stmt) : He5.DefA := ⟨fun K => He.ga K x, x, x, defArgs st, defBody st, defScope st, [], []⟩
def dM (c m q : Str) (st : Stmt) : He5.DefA := ⟨fun K => He.ma K (He.ga K c) m, m, q, defArgs st, defBody st, defScope st, [], []⟩
def gfns : List He5.DefA := ([dG "_law_hand" (top 37), dG "_law_draw" (top 39), dG "_law_mixed" (top 38), dG "_law_shape" (top 49), dG "_law_pick" (top 40), dG "_law_machine" (top 51), dG "_law_value" (top 42), dG "_law_move" (top 48), dG "_law_letter" (top 43), dG "_law_test" (top 44)] : List He5.DefA) ++
  ([dG "_law_rings" (top 50), dG "_law_shown" (top 56), dG "is_whole_from" (top 3), dG "is_whole" (top 2), dG "_checked_starts" (top 26), dG "is_sequence" (top 4), dG "_is_start" (top 27), dG "is_sequence_of" (top 5), dG "_checked_arrows" (top 28), dG "_is_arrow" (top 29)] : List He5.DefA) ++
  ([dG "fits_move" (top 22), dG "fits_letter" (top 13), dG "fits_test" (top 14), dG "check_move" (top 23), dG "_rim_of" (top 31), dG "_letters_and_tests" (top 30), dG "_block_of" (top 32), dG "_leaving" (top 33), dG "_law_rim" (top 52), dG "_law_block" (top 54)] : List He5.DefA) ++
  ([dG "_law_both_divide" (top 53), dG "_law_whole" (top 41), dG "_law_told" (top 58), dG "_law_odd_move" (top 62), dG "_law_move_told" (top 59), dG "_law_rooms_hold" (top 60), dG "room_of" (top 34), dG "_law_room" (top 55), dG "number_of" (top 35), dG "_law_moves_hold" (top 61)] : List He5.DefA) ++
  ([dG "move_number" (top 24), dG "do_letter" (top 15), dG "passes" (top 16), dG "_law_moved" (top 47), dG "_law_deed" (top 45), dG "_law_passes" (top 46), dG "_law_refusals_hold" (top 66), dG "_law_odd_arrow" (top 64), dG "_law_odd_start" (top 63), dG "_law_with_odd" (top 65)] : List He5.DefA) ++
  ([dG "_law_great_holds" (top 67), dG "law" (top 68)] : List He5.DefA)
def mfns : List He5.DefA := [dM "Machine" "__init__" "Machine.__init__" (inClass (top 25) 0), dM "Machine" "__eq__" "Machine.__eq__" (inClass (top 25) 1), dM "BadMachine" "__init__" "BadMachine.__init__" (inClass (top 9) 0)]
def fns : List He5.DefA := gfns ++ mfns
def gnames : List Str := gfns.map (·.name)
abbrev AlM : Type := Bool × He.AlD
def obsM (b : PySem.W.Frag → Bool) (K : PySem.W.Frag) : AlM := (b K, He5.obsA [] fns K)
def hookM (n : Nat) (b : PySem.W.Frag → Bool) : PySem.W.Hook where
  α := AlM
  obs := fun s => obsM b (He.frG s.heap.get? (He.asD s.heap.get? n))
  val := fun _ => (true, He5.valA fns)
  says := fun _ h => ∃ K : PySem.W.Frag, K.In h ∧ obsM b K = (true, He5.valA fns)
  of := fun _ _ e => ⟨_, He.frG_in, e⟩
  keeps := fun _ _ _ ⟨F, inF, says⟩ k => ⟨F, PySem.W.Frag.In.keeps inF k, says⟩
theorem obsM_eq {n : Nat} {b : PySem.W.Frag → Bool} {g : Addr → Option Obj} {s : Shared} (h : ∀ a, g a = s.heap.get? a) : obsM b (He.frG g (He.asD g n)) = (hookM n b).obs s := by
  have same : g = s.heap.get? := funext h
  rw [same] <;> rfl
def blts : List Str := ["int", "bool", "str", "list", "tuple", "isinstance", "enumerate", "abs", "len", "range", "min", "all", "any", "ValueError", "max", "divmod"]
def machB (K : PySem.W.Frag) : Bool := (He.Fa.cls "Machine").ok K && ((["stations", "starts", "arrows", "rim", "block", "leaving"] : List Str).all (fun f => (He.Fa.noat "Machine" f).ok K) && ((He.Fa.mkr "Machine").ok K && ((He.Fa.meth "Machine" "__eq__").ok K &&
  (decide (PySem.W.findIn K (.ref (He.ga K "Machine")) "__class__" = some (some (.builtin "object.__class__"))) && (decide (PySem.W.mroIn K (He.ga K "Machine") (.type "object") = some true) && decide (PySem.W.kitOne K (.ref (He.ga K "Machine")) (.ref (He.ga K "Machine")) = some true))))))
def bmB (K : PySem.W.Frag) : Bool := exB K "BookError" ("BadMachine", ["what", "at"]) && (xfB K (He.ga K "BadMachine") && decide (PySem.W.exmOne K (.ref (He.ga K "BadMachine")) (.ref (He.ga K "BadMachine")) = some true))
def bvB (K : PySem.W.Frag) : Bool := exB K "BookError" ("BadMove", []) && (decide (PySem.W.exmOne K (.ref (He.ga K "BadMove")) (.ref (He.ga K "BadMove")) = some true) && (decide (PySem.W.kitOne K (.ref (He.ga K "BadMove")) (.ref (He.ga K "BadMachine")) = some false) && (He.Fa.glo "BookError").ok K))
def conB (K : PySem.W.Frag) : Bool := (He.Fa.glo "Machine").ok K && (He.eqO (PySem.W.nsIn K mainGlobals "lcm") (some (some (.builtin "math.lcm"))) && ((He.Fa.int "MOST" 20).ok K && ((He.Fa.int "MOST_REST" 6).ok K && ((He.Fa.int "MOST_STATIONS" 200).ok K && ((He.Fa.int "MOST_STARTS" 60).ok K && ((He.Fa.int "MOST_ARROWS" 4000).ok K && ((He.Fa.int "FARTHEST_START" 1000).ok K)))))))
def clB (K : PySem.W.Frag) : Bool := decide (PySem.W.specialIn K (.builtin "object.__class__") "__get__" = some (some (.builtin "getset_descriptor.__get__"))) && decide (PySem.W.takesIn K (.builtin "object.__class__") = some true)
def facts (K : PySem.W.Frag) : Bool := (blts.all fun x => (He.Fa.free x).ok K) && ((gnames.all fun x => (He.Fa.glo x).ok K) && (machB K && (bmB K && (bvB K && (conB K && clB K)))))
abbrev R : PySem.W.OpenRow := PySem.W.OpenLaw.row PySem.Challenge.rw_truebooks_k08_whole_machines_and_rooms_t
abbrev hk : PySem.W.Hook := hookM 5 facts
def ob (s : PySem.W.SharedT) : AlM := obsM facts (He.frG (HandSHeadRun.getT s) (He.asD (HandSHeadRun.getT s) 5))
theorem ob_eq (s : PySem.W.SharedT) : ob s = hk.obs s.abs := obsM_eq (HandSHeadRun.getT_eq s)
theorem run (w : World) : HandSHeadRun.RunEqI R (PySem.W.view R.prog [0, 68]) hk ob 12000 looseN w := by
  unfold HandSHeadRun.RunEqI
  kernel_rfl
end My
set_option Elab.async false
set_option linter.all false
set_option maxRecDepth 100000
set_option maxHeartbeats 8000000
/-! common words of the proofs -/
namespace My
open PySem PySem.Spec PyProof.Rows L2
theorem smallB {n : Nat} (h : n ≤ 60000) : n < sizeLine := by rw [sizeLine_eq]; omega
/-- the def at the module's name x keeps its promise -/
def Keeps (CX : CXT) (P : Program) (w : World) (K : PySem.W.Frag) (mg : Str → Option Value) (base : Heap) (x : Str) (k : Nat) (ps : List Str) (sp : Sp) : Prop :=
  ∃ fd, FnOk P w K mg base CX k (He.ga K x) fd ps sp ∧ Binds K fd ps [] ∧ PySem.W.keepIn K (.ref (He.ga K x)) = true ∧ mg x = some (.ref (He.ga K x))
theorem pe_k {X : Cx} {CX : CXT} {k : Nat} {ps : List Str} {sp : Sp} {E : XK} {x : Str} {p pos : Pos} {e : Expr} {es : List Expr} {t : TA} (h : Keeps CX X.prog X.w X.K X.mg X.base x k ps sp) (hr : Room k X.A) (hg : Gl X x) (hx : Passes CX X E)
    (ha : PA X (e :: es) t) (dbg : (x == ("__debug__" : Str)) = false := by decide) (hst : starEach (e :: es) X.env = (false, eval e X.env) :: starEach es X.env := by rfl) (hpl : (backTo pos (starEach es X.env)).any (·.1) = false := by rfl) :
    PE X (.Call (.Name x p) (e :: es) [] pos) (tCall sp [] E t) := by
  obtain ⟨fd, F, b, kp, m⟩ := h
  exact pe_call F hr hg m kp b .nil hx ha dbg hst hpl
/-- a def of the top, as it stands -/
def At (K : PySem.W.Frag) (mg : Str → Option Value) (x : Str) (st : Stmt) : Prop := mg x = some (.ref (He.ga K x)) ∧ ∃ fd, FunD K x x (defArgs st) (defBody st) (defScope st) [] [] (He.ga K x) fd
abbrev bindsBy (st : Stmt) (x : Str) (ps : List Str) : Prop := ∀ (kV doc pm : Value) (an : Option Addr) (cdv ct : Value) (us : List Value), us.length = ps.length → bindArgs (PySem.W.fnOf x x (defArgs st) (defBody st) (defScope st) .none kV doc pm an cdv ct) ⟨us, []⟩ = pure (ps.zip us)
section
variable {CX : CXT} {P : Program} {w : World} {K : PySem.W.Frag} {mg : Str → Option Value} {base : Heap}
theorem keeps_ofX {x : Str} {st : Stmt} {N ps : List Str} {k : Nat} {sp : Sp} (F : At K mg x st) (S : FnScope N ps (defScope st)) (hb : bindsBy st x ps) (len : ∀ vs H Q E, sp vs H Q E → vs.length = ps.length)
    (hbody : ∀ (f : Addr) (cdv : Value) (A : Around) (outer : List Env) (s : Shared) (H : Hp) (vs : List V) (Q : VK) (E : XK), Room k (A.deeper (envOfC x (defScope st) s.heap.objs.size f cdv)) → sp vs H Q E →
      ∃ t, PSs (cxOf CX P w K mg base N x (defScope st) f cdv A outer s H E) (defBody st) t ∧ t { nx := fun _ H' => Q .non H', rt := Q } (start N vs) H) : Keeps CX P w K mg base x (k + 1) ps sp := by
  obtain ⟨m, fd, F⟩ := F
  exact ⟨fd, F.ok S len (hbody _), F.bindsN hb, F.kp, m⟩
theorem keeps_of {x : Str} {st : Stmt} {N ps : List Str} {k : Nat} {sp : Sp} (F : At K mg x st) (S : FnScope N ps (defScope st)) (hb : bindsBy st x ps) (len : ∀ vs H Q E, sp vs H Q E → vs.length = ps.length)
    (hbody : ∀ (f : Addr) (cdv : Value) (A : Around) (outer : List Env) (s : Shared) (H : Hp) (vs : List V) (Q : VK) (E : XK), Room k (A.deeper (envOfC x (defScope st) s.heap.objs.size f cdv)) → sp vs H Q E →
      ∃ t, PSs (cxOf CX0 P w K mg base N x (defScope st) f cdv A outer s H E).nox (defBody st) t ∧ t { nx := fun _ H' => Q .non H', rt := Q } (start N vs) H) : Keeps CX0 P w K mg base x (k + 1) ps sp :=
  keeps_ofX F S hb len fun f cdv A outer s H vs Q E hr h => by
    obtain ⟨t, h1, h2⟩ := hbody f cdv A outer s H vs Q E hr h
    exact ⟨t, h1.nox, h2⟩
end
/-- all but p as it was -/
def But (p : Addr) (H H' : Hp) : Prop := ∀ b o, b ≠ p → H b = some o → H' b = some o
/-- a hand of draws stands at p, its cells at c -/
def HandC (H : Hp) (p c : Addr) : Prop := ∃ (cs : List Int) (at_ rest total : Int), H p = some (.lst [.ref c, .int at_, .int rest, .int total]) ∧ H c = some (.lst (cs.map V.int)) ∧ 0 ≤ at_
local macro_rules | `(tactic| walk_at "lv") => `(tactic| first | exact Or.inl rfl | exact Or.inr rfl)
/-! ### _law_mix -/
def spMix : Sp := fun vs H Q _ => ∃ a b : Int, vs = [.int a, .int b] ∧ ∀ r : Int, Q (.int r) H
abbrev s_mix : Stmt := top 38
abbrev N_mix : List Str := ["_law_number", "_law_turn", "_law_once", "_law_twice"]
theorem sc_mix : FnScope N_mix ["_law_number", "_law_turn"] (defScope s_mix) := ⟨rfl, rfl, rfl, by decide +kernel, rfl, by decide +kernel, by decide +kernel⟩
section
variable {P : Program} {w : World} {K : PySem.W.Frag} {mg : Str → Option Value} {base : Heap}
theorem mod_lt31 {a m : Int} (h : 0 < m) (hm : m < 2 ^ 40) : -(2 ^ 64) < a % m ∧ a % m < 2 ^ 64 := by
  have h1 := Int.emod_nonneg a (b := m) (by omega)
  have h2 := Int.emod_lt_of_pos a h
  omega
theorem kp_mix (F : At K mg "_law_mixed" s_mix) (nI : mg "int" = none) : Keeps CX0 P w K mg base "_law_mixed" 1 ["_law_number", "_law_turn"] spMix := by
  refine keeps_of F sc_mix (fun _ _ _ _ _ _ us hl => match us, hl with | [_, _], _ => rfl) (fun vs H Q E h => ?_) (fun f cdv A outer s H vs Q E hr h => ?_)
  · obtain ⟨a, b, rfl, _⟩ := h
    rfl
  · obtain ⟨a, b, rfl, k⟩ := h
    refine ⟨_, (pss_cons (ps_set (i := 2) sc_mix.nd rfl (by walk_at "lv") (pe_op op_mod (pe_callTy call_int1 (by rfl) nI boot_int (pa_cons (pe_op op_add (pe_op op_add (pe_op op_mul (pv 0) pe_int) (pe_op op_mul (pv 1) pe_int)) pe_int) pa_nil)) pe_int))
        (pss_cons (ps_set (i := 3) sc_mix.nd rfl (by walk_at "lv") (pe_op op_mod (pe_callTy call_int1 (by rfl) nI boot_int (pa_cons (pe_op op_add (pe_op op_add (pe_op op_mul (pv 2) (pv 2)) (pe_op op_mul (pv 1) pe_int)) (pe_op op_fdiv (pv 2) pe_int)) pa_nil)) pe_int))
        (pss_one (ps_ret (pe_op op_fdiv (pe_callTy call_int1 (by rfl) nI boot_int (pa_cons (pe_op op_mod (pe_callTy call_int1 (by rfl) nI boot_int (pa_cons (pe_op op_add (pe_op op_mul (pv 3) pe_int) (pe_op op_fdiv (pv 2) pe_int)) pa_nil)) pe_int) pa_nil)) pe_int))))), ?_⟩
    refine ⟨_, rfl, _, _, rfl, rfl, .inr ⟨by decide, by decide⟩, _, rfl, _, _, rfl, rfl, .inr ⟨by decide, by decide⟩, _, _, rfl, rfl, _, _, rfl, rfl, .inl ⟨_, rfl, _, _, rfl, rfl, (by show (0 : Int) < _; decide), ?_⟩⟩
    refine ⟨_, rfl, _, rfl, _, _, rfl, rfl, .inl (mod_lt31 (by decide) (by decide)), _, rfl, _, _, rfl, rfl, .inr ⟨by decide, by decide⟩, _, _, rfl, rfl, _, rfl, _, _, rfl, rfl, ⟨by decide, by decide⟩, _, _, rfl, rfl, .inl ⟨_, rfl, _, _, rfl, rfl, (by show (0 : Int) < _; decide), ?_⟩⟩
    exact ⟨_, rfl, _, _, rfl, rfl, .inr ⟨by decide, by decide⟩, _, rfl, _, _, rfl, rfl, ⟨by decide, by decide⟩, _, _, rfl, rfl, .inl ⟨_, rfl, _, _, rfl, rfl, (by show (0 : Int) < _; decide), .inl ⟨_, rfl, _, _, rfl, rfl, ⟨by decide, by decide⟩, k _⟩⟩⟩
/-! ### _law_hand -/
def spHand (K : PySem.W.Frag) : Sp := fun vs H Q _ => ∃ (a : Addr) (ns : List Int), vs = [.ref a] ∧ SqL K H a (ns.map V.int) ∧ ns.length ≤ 63 ∧ ∀ p c H', H p = none → H c = none → HandC H' p c → Same H H' → Q (.ref p) H'
abbrev s_hand : Stmt := top 37
abbrev N_hand : List Str := ["_law_script", "_law_total", "_law_cells", "_law_cell"]
theorem sc_hand : FnScope N_hand ["_law_script"] (defScope s_hand) := ⟨rfl, rfl, rfl, by decide +kernel, rfl, by decide +kernel, by decide +kernel⟩
theorem int_at {ns : List Int} {i : Nat} {x : V} (h : (ns.map V.int)[i]? = some x) : ∃ z, ns[i]? = some z ∧ x = .int z := by
  rw [List.getElem?_map] at h
  cases e : ns[i]? with
  | none =>
    rw [e] at h
    cases h
  | some z =>
    rw [e] at h
    exact ⟨z, rfl, (Option.some.inj h).symm⟩
theorem kp_hand (F : At K mg "_law_hand" s_hand) (nI : mg "int" = none) (nL : mg "len" = none) (nA : mg "abs" = none) : Keeps CX0 P w K mg base "_law_hand" 1 ["_law_script"] (spHand K) := by
  refine keeps_of F sc_hand (fun _ _ _ _ _ _ us hl => match us, hl with | [_], _ => rfl) (fun vs H Q E h => ?_) (fun f cdv A outer s H vs Q E hr h => ?_)
  · obtain ⟨a, ns, rfl, _⟩ := h
    rfl
  · obtain ⟨a, ns, rfl, hS, hlen, k⟩ := h
    refine ⟨_, (pss_cons (ps_set (i := 1) sc_hand.nd rfl (by walk_at "lv") (pe_op op_add pe_int (pe_callB call_len_seq (by rfl) nL boot_len (pa_cons (pv 0) pa_nil))))
        (pss_cons (ps_set (i := 2) sc_hand.nd rfl (by walk_at "lv") (pe_lst pa_nil))
        (pss_cons (ps_for PassesOwn.never rfl (pi_list (pv 0)) (pg_name (i := 3) sc_hand.nd rfl (by walk_at "lv")) (pss_cons (ps_set (i := 1) sc_hand.nd rfl (by walk_at "lv") (pe_op op_mod (pe_callTy call_int1 (by rfl) nI boot_int (pa_cons (pe_op op_add (pe_op op_mul (pv 1) pe_int) (pe_callTy call_int1 (by rfl) nI boot_int (pa_cons (pv 3) pa_nil))) pa_nil)) pe_int))
        (pss_one (ps_expr (pe_bm PySem.F.plainAttrs_list PySem.F.slot_list_append PySem.F.type_list_append mt_append (pv 2) (pa_cons (pe_callB call_abs (by rfl) nA boot_abs (pa_cons (pe_callTy call_int1 (by rfl) nI boot_int (pa_cons (pv 3) pa_nil)) pa_nil)) pa_nil))))))
        (pss_one (ps_ret (pe_lst (pa_cons (pv 2) (pa_cons pe_int (pa_cons pe_int (pa_cons (pv 1) pa_nil)))))))))), ?_⟩
    refine ⟨_, rfl, a, _, rfl, .inl hS, _, _, rfl, rfl, (by show 0 ≤ sizeLine; decide), fun c hc => ?_⟩
    have sn : ∀ {H1 H2 : Hp} {q : Addr} {o : HO}, Same H1 H2 → H2 q = none → Same H1 (upd H2 q o) := fun s hq b u e => by
      rw [upd_ne (ne_of_none (s _ _ e) hq)]
      exact s _ _ e
    have s1 := sn (o := .lst []) (Same.refl H) hc
    refine ⟨_, rfl, a, rfl, ⟨_, s1.seq hS⟩, for_it walk_list (fun i σ H2 => ∃ (t : Int) (cs : List Int) (x : Option V), σ = [some (.ref a), some (.int t), some (.ref c), x] ∧ H2 c = some (.lst (cs.map V.int)) ∧ cs.length = i ∧ Same H H2) ⟨_, [], none, rfl, upd_same, rfl, s1⟩ (fun i σ H2 _ ⟨_, _, _, _, _, _, s2⟩ => s2.seq hS) ?_ ?_⟩
    · rintro i v σ H2 H3 hi ⟨t, cs, x, rfl, hcs, hl, s2⟩ ⟨rfl, e4⟩
      obtain ⟨n, hn, rfl⟩ := int_at e4
      have hi63 : i < 63 := by
        rw [List.length_map] at hi
        omega
      refine ⟨_, rfl, _, _, rfl, rfl, .inr ⟨by decide, by decide⟩, _, rfl, .inl ⟨_, rfl, _, _, rfl, rfl, .inl ⟨_, rfl, _, _, rfl, rfl, (by show (0 : Int) < _; decide), ?_⟩⟩⟩
      refine ⟨_, rfl, .inl ⟨rfl, _, SqL.of hcs⟩, _, rfl, .inl ⟨_, rfl, _, rfl, c, _, _, rfl, rfl, hcs, smallB (by rw [List.length_map]; omega), ?_⟩⟩
      refine ⟨_, cs ++ [if n < 0 then -n else n], _, rfl, ?_, by rw [List.length_append, hl]; rfl, fun b o e => ?_⟩
      · rw [List.map_append]
        exact upd_same
      · rw [upd_ne (ne_of_none e hc)]
        exact s2 b o e
    · rintro σ H2 ⟨t, cs, x, rfl, hcs, hl, s2⟩
      refine ⟨_, rfl, _, rfl, (by show 4 ≤ sizeLine; decide), fun p hp => ?_⟩
      refine k p c _ (s2.free hp) hc ⟨cs, 0, 0, t, upd_same, ?_, Int.le_refl 0⟩ (sn s2 hp)
      rw [upd_ne (ne_of_none hcs hp)]
      exact hcs
/-! ### _law_draw -/
def spDraw : Sp := fun vs H Q _ => ∃ (p c : Addr) (m : Int), vs = [.ref p, .int m] ∧ HandC H p c ∧ (0 < m ∧ m.natAbs.log2 < 9000) ∧ ∀ (r : Int) H', 0 ≤ r → r < m → HandC H' p c → But p H H' → Q (.int r) H'
abbrev s_draw : Stmt := top 39
abbrev N_draw : List Str := ["_law_hand_here", "_law_many", "_law_cell", "_law_rest"]
theorem sc_draw : FnScope N_draw ["_law_hand_here", "_law_many"] (defScope s_draw) := ⟨rfl, rfl, rfl, by decide +kernel, rfl, by decide +kernel, by decide +kernel⟩
theorem atI_of {α : Type} {xs : List α} {i : Int} (h0 : 0 ≤ i) (h1 : i < xs.length) : ∃ v, xs[i.toNat]? = some v ∧ atI xs i = some v := by
  have e : xs[i.toNat]? = some (xs[i.toNat]'(by omega)) := List.getElem?_eq_getElem _
  have e2 : ((i.toNat : Nat) : Int) = i := by omega
  refine ⟨_, e, ?_⟩
  have q := atI_nat e
  rw [e2] at q
  exact q
theorem But.upd {p : Addr} {H H' : Hp} {o : HO} (h : But p H H') : But p H (upd H' p o) := fun b u hb e => by
  rw [upd_ne hb]
  exact h b u hb e
theorem But.refl (p : Addr) (H : Hp) : But p H H := fun _ _ _ e => e
theorem kp_draw (F : At K mg "_law_draw" s_draw) (GM : Keeps CX0 P w K mg base "_law_mixed" 1 ["_law_number", "_law_turn"] spMix) (nI : mg "int" = none) (nL : mg "len" = none) : Keeps CX0 P w K mg base "_law_draw" 2 ["_law_hand_here", "_law_many"] spDraw := by
  refine keeps_of F sc_draw (fun _ _ _ _ _ _ us hl => match us, hl with | [_, _], _ => rfl) (fun vs H Q E h => ?_) (fun f cdv A outer s H vs Q E hr h => ?_)
  · obtain ⟨p, c, m, rfl, _⟩ := h
    rfl
  · obtain ⟨p, c, m, rfl, ⟨cs, i, rest, tot, hp, hc, hi⟩, ⟨hm, hm2⟩, k⟩ := h
    have cp : c ≠ p := ne_of hc hp (by
      intro z
      cases cs with
      | nil => cases z
      | cons y ys => cases z)
    -- what stands behind the first if
    obtain ⟨tl, dtl, tail⟩ : ∃ tl, PSs (cxOf CX0 P w K mg base N_draw "_law_draw" (defScope s_draw) f cdv A outer s H E).nox ((defBody s_draw).drop 1) tl ∧ ∀ (H1 : Hp) (i1 r1 : Int) (x : Option V), 0 ≤ i1 → H1 p = some (.lst [.ref c, .int i1, .int r1, .int tot]) → H1 c = some (.lst (cs.map V.int)) → But p H H1 →
        tl { nx := fun _ H' => Q .non H', rt := Q } [some (V.ref p), some (V.int m), x, none] H1 := by
      refine ⟨_, (pss_cons (ps_if (pt_cmpR op_gt (pe_ix ix_list (pv 0) pe_int (fun _ _ => rfl)) pe_int (nomark _)) (pss_cons (ps_set (i := 3) sc_draw.nd rfl (by walk_at "lv") (pe_ix ix_list (pv 0) pe_int (fun _ _ => rfl)))
        (pss_cons (ps_asg (pe_op op_fdivW (pe_callTy call_int1 (by rfl) nI boot_int (pa_cons (pv 3) pa_nil)) (pv 1)) (pg_sub (pv 0) pe_int set_list))
        (pss_one (ps_ret (pe_op op_mod (pe_callTy call_int1 (by rfl) nI boot_int (pa_cons (pv 3) pa_nil)) (pv 1)))))) pss_nil)
        (pss_cons (ps_asg (pe_op op_mod (pe_callTy call_int1 (by rfl) nI boot_int (pa_cons (pe_op op_add (pe_ix ix_list (pv 0) pe_int (fun _ _ => rfl)) pe_int) pa_nil)) pe_int) (pg_sub (pv 0) pe_int set_list))
        (pss_one (ps_ret (pe_op op_mod (pe_callTy call_int1 (by rfl) nI boot_int (pa_cons (pe_k GM hr (by rfl) pass0 (pa_cons (pe_ix ix_list (pv 0) pe_int (fun _ _ => rfl)) (pa_cons (pe_ix ix_list (pv 0) pe_int (fun _ _ => rfl)) pa_nil))) pa_nil)) (pv 1)))))), ?_⟩
      intro H1 i1 r1 x h0 h1 h2 b1
      refine ⟨_, rfl, p, _, _, _, rfl, rfl, SqL.of h1, rfl, _, _, rfl, rfl, _, rfl, ?_⟩
      refine ite2 (fun _ => ?_) (fun _ => ?_)
      · refine ⟨_, rfl, p, _, _, _, rfl, rfl, SqL.of h1, rfl, _, rfl, .inl ⟨_, rfl, _, rfl, _, _, rfl, rfl, ⟨hm, hm2⟩, _, rfl, p, _, _, 2, rfl, rfl, h1, rfl, ?_⟩⟩
        refine ⟨_, rfl, .inl ⟨_, rfl, _, rfl, _, _, rfl, rfl, hm, ?_⟩⟩
        exact k _ _ (Int.emod_nonneg _ (by omega)) (Int.emod_lt_of_pos _ hm) ⟨cs, i1, _, _, upd_same, by rw [upd_ne cp]; exact h2, h0⟩ b1.upd
      · refine ⟨_, rfl, p, _, _, _, rfl, rfl, SqL.of h1, rfl, _, _, rfl, rfl, .inl ⟨_, rfl, _, _, rfl, rfl, (by show (0 : Int) < _; decide), _, rfl, p, _, _, 3, rfl, rfl, h1, rfl, ?_⟩⟩
        refine ⟨_, rfl, p, _, _, _, rfl, rfl, SqL.of upd_same, rfl, _, rfl, p, _, _, _, rfl, rfl, SqL.of upd_same, rfl, _, _, rfl, fun r => .inl ⟨_, rfl, _, rfl, _, _, rfl, rfl, hm, ?_⟩⟩
        exact k _ _ (Int.emod_nonneg _ (by omega)) (Int.emod_lt_of_pos _ hm) ⟨cs, i1, _, _, upd_same, by rw [upd_ne cp]; exact h2, h0⟩ b1.upd
    refine ⟨_, pss_cons (ps_if (PW.pt (pw_and (pt_cmpR op_eq (pe_ix ix_list (pv 0) pe_int (fun _ _ => rfl)) pe_int (nomark _)) (pw_and1 (pt_cmpR op_lt (pe_ix ix_list (pv 0) pe_int (fun _ _ => rfl)) (pe_callB call_len_seq (by rfl) nL boot_len (pa_cons (pe_ix ix_list (pv 0) pe_int (fun _ _ => rfl)) pa_nil)) (nomark _))))) (pss_cons (ps_set (i := 2) sc_draw.nd rfl (by walk_at "lv") (pe_ix ix_list (pe_ix ix_list (pv 0) pe_int (fun _ _ => rfl)) (pe_ix ix_list (pv 0) pe_int (fun _ _ => rfl)) (fun _ _ => rfl)))
        (pss_cons (ps_asg (pe_op op_add (pe_ix ix_list (pv 0) pe_int (fun _ _ => rfl)) pe_int) (pg_sub (pv 0) pe_int set_list))
        (pss_cons (ps_if (pt_cmpR op_lt (pv 2) (pe_op op_pow pe_int pe_int) (nomark _)) (pss_one (ps_ret (pe_op op_mod (pe_callTy call_int1 (by rfl) nI boot_int (pa_cons (pe_k GM hr (by rfl) pass0 (pa_cons (pe_op op_mod (pe_callTy call_int1 (by rfl) nI boot_int (pa_cons (pv 2) pa_nil)) pe_int) (pa_cons (pe_ix ix_list (pv 0) pe_int (fun _ _ => rfl)) pa_nil))) pa_nil)) (pv 1)))) pss_nil)
        (pss_one (ps_asg (pv 2) (pg_sub (pv 0) pe_int set_list)))))) pss_nil) dtl, ?_⟩
    refine ⟨_, rfl, p, _, _, _, rfl, rfl, SqL.of hp, rfl, rfl, _, rfl, ?_⟩
    refine ite2 (fun _ => ?_) (fun _ => ?_)
    · refine ⟨_, rfl, p, _, _, _, rfl, rfl, SqL.of hp, rfl, _, rfl, p, _, _, _, rfl, rfl, SqL.of hp, rfl, c, _, rfl, .inl (SqL.of hc), _, _, rfl, rfl, _, rfl, ?_⟩
      refine ite2 (fun hlt => ?_) (fun _ => ?_)
      · have hlt := of_decide_eq_true hlt
        rw [List.length_map] at hlt
        obtain ⟨v, ev, eat⟩ := atI_of (xs := cs.map V.int) hi (by rw [List.length_map]; exact hlt)
        obtain ⟨z, _, rfl⟩ := int_at ev
        refine ⟨_, rfl, p, _, _, _, rfl, rfl, SqL.of hp, rfl, _, rfl, p, _, _, _, rfl, rfl, SqL.of hp, rfl, c, _, _, _, rfl, rfl, SqL.of hc, eat, ?_⟩
        refine ⟨_, rfl, p, _, _, _, rfl, rfl, SqL.of hp, rfl, _, _, rfl, rfl, _, rfl, p, _, _, 1, rfl, rfl, hp, rfl, ?_⟩
        refine ⟨_, rfl, _, _, rfl, rfl, ⟨by decide, by decide, by decide⟩, _, _, rfl, rfl, _, rfl, ?_⟩
        refine ite2 (fun _ => ?_) (fun _ => ?_)
        · refine ⟨_, rfl, .inl ⟨_, rfl, _, _, rfl, rfl, (by show (0 : Int) < _; decide), _, rfl, p, _, _, _, rfl, rfl, SqL.of upd_same, rfl, _, _, rfl, fun r => .inl ⟨_, rfl, _, rfl, _, _, rfl, rfl, hm, ?_⟩⟩⟩
          exact k _ _ (Int.emod_nonneg _ (by omega)) (Int.emod_lt_of_pos _ hm) ⟨cs, _, _, _, upd_same, by rw [upd_ne cp]; exact hc, by omega⟩ (But.refl p H).upd
        · refine ⟨_, rfl, _, rfl, p, _, _, 2, rfl, rfl, upd_same, rfl, ?_⟩
          exact tail _ (i + 1) z _ (by omega) upd_same (by rw [upd_ne cp, upd_ne cp]; exact hc) (But.refl p H).upd.upd
      · exact tail _ i rest _ hi hp hc (But.refl p H)
    · exact tail _ i rest _ hi hp hc (But.refl p H)
end
end My
set_option linter.all false
namespace My
/-! ### the mathematics of lots: plain Lean -/
def cyc (l : List Bool) (n : Int) : Bool := l.getD (n % (l.length : Int)).toNat false
def Per (f : Int → Bool) (d : Nat) : Prop := ∀ n : Int, f (n + d) = f n
theorem Per.mul {f : Int → Bool} {d : Nat} (h : Per f d) (k : Nat) : Per f (d * k) := by
  induction k with
  | zero => intro n; simp
  | succ k ih =>
    intro n
    have e : n + ((d * (k + 1) : Nat) : Int) = (n + ((d * k : Nat) : Int)) + (d : Int) := by
      rw [Nat.mul_succ]; push_cast; omega
    rw [e, h, ih]
theorem Per.back {f : Int → Bool} {d : Nat} (h : Per f d) (n : Int) : f (n - d) = f n := by
  have := h (n - d)
  rw [← this]; congr 1; omega
theorem Per.mulI {f : Int → Bool} {d : Nat} (h : Per f d) (k : Int) (n : Int) : f (n + d * k) = f n := by
  rcases Int.le_total 0 k with hk | hk
  · obtain ⟨j, rfl⟩ := Int.eq_ofNat_of_zero_le hk
    have := h.mul j n
    push_cast at this
    exact this
  · obtain ⟨j, hj⟩ := Int.eq_ofNat_of_zero_le (by omega : 0 ≤ -k)
    have e : k = -(j : Int) := by omega
    subst e
    have := (h.mul j).back n
    push_cast at this
    rw [← this]; congr 1; rw [Int.mul_neg]; omega
theorem Per.mod {f : Int → Bool} {d : Nat} (h : Per f d) (n : Int) : f (n % d) = f n := by
  have e := Int.emod_add_mul_ediv n (d : Int)
  have := h.mulI (n / d) (n % d)
  rw [e] at this
  exact this.symm
/-- two numbers alike modulo a period -/
theorem Per.cong {f : Int → Bool} {d : Nat} (h : Per f d) {a b : Int} (e : a % (d : Int) = b % (d : Int)) : f a = f b := by
  rw [← h.mod a, ← h.mod b, e]
theorem cyc_per {l : List Bool} : Per (cyc l) l.length := by
  intro n
  unfold cyc
  rw [Int.add_emod_right]
theorem cyc_lt {l : List Bool} {k : Nat} (h : k < l.length) : cyc l (k : Int) = l.getD k false := by
  unfold cyc
  have : ((k : Int) % (l.length : Int)).toNat = k := by
    rw [Int.emod_eq_of_lt (by omega) (by omega)]; rfl
  rw [this]
/-- least common period of two functions -/
structure Least (U D : Int → Bool) (d : Nat) : Prop where
  pos : 0 < d
  pu : Per U d
  pd : Per D d
  le : ∀ e : Nat, 0 < e → Per U e → Per D e → d ≤ e
theorem Least.dvd {U D : Int → Bool} {d m : Nat} (h : Least U D d) (hm : 0 < m) (pu : Per U m) (pd : Per D m) : m % d = 0 := by
  have key : ∀ {f : Int → Bool}, Per f d → Per f m → Per f (m % d) := by
    intro f hd hm' n
    have e := Nat.mod_add_div m d
    have e2 : n + ((m % d : Nat) : Int) = (n + (m : Int)) - ((d * (m / d) : Nat) : Int) := by
      have : (m : Int) = ((m % d + d * (m / d) : Nat) : Int) := by rw [e]
      rw [this]; push_cast; omega
    rw [e2, (hd.mul (m / d)).back, hm']
  rcases Nat.eq_zero_or_pos (m % d) with h0 | h0
  · exact h0
  · have := h.le _ h0 (key h.pu pu) (key h.pd pd)
    have := Nat.mod_lt m h.pos
    omega
theorem least_ex {U D : Int → Bool} : ∀ m : Nat, 0 < m → Per U m → Per D m → ∃ d, Least U D d := by
  intro m
  induction m using Nat.strongRecOn with | ind m ih =>
    intro hm pu pd
    by_cases h : ∃ e, 0 < e ∧ e < m ∧ Per U e ∧ Per D e
    · obtain ⟨e, he, hlt, pu', pd'⟩ := h
      exact ih e hlt he pu' pd'
    · refine ⟨m, hm, pu, pd, fun e he pu' pd' => ?_⟩
      rcases Nat.lt_or_ge e m with q | q
      · exact absurd ⟨e, he, q, pu', pd'⟩ h
      · exact q
theorem Least.unique {U D : Int → Bool} {d e : Nat} (h : Least U D d) (g : Least U D e) : d = e :=
  Nat.le_antisymm (h.le e g.pos g.pu g.pd) (g.le d h.pos h.pu h.pd)
/-- lists: d divides the length, and what stands at k stands at k mod d: a period of cyc -/
theorem per_of {l : List Bool} {d : Nat} (hd : 0 < d) (hm : l.length % d = 0) (h : ∀ k, k < l.length → l.getD k false = l.getD (k % d) false) : Per (cyc l) d := by
  rcases Nat.eq_zero_or_pos l.length with h0 | hl
  · intro n; unfold cyc; rw [List.length_eq_zero_iff.mp h0]; rfl
  have at_ : ∀ n : Int, cyc l n = l.getD (n % (d : Int)).toNat false := by
    intro n
    have k0 := Int.emod_nonneg n (by omega : (l.length : Int) ≠ 0)
    have k1 := Int.emod_lt_of_pos n (by omega : (0 : Int) < (l.length : Int))
    unfold cyc
    rw [h _ (by omega)]
    congr 1
    have e : (l.length : Int) = (d : Int) * ((l.length / d : Nat) : Int) := by
      have := Nat.mod_add_div l.length d
      rw [hm, Nat.zero_add] at this
      exact_mod_cast this.symm
    have q : (n % (l.length : Int)) % (d : Int) = n % (d : Int) := by
      rw [e]; exact Int.emod_emod_of_dvd n ⟨_, rfl⟩
    have : ((n % (l.length : Int)).toNat % d : Nat) = ((n % (l.length : Int)) % (d : Int)).toNat := by
      have q2 : (((n % (l.length : Int)).toNat : Nat) : Int) = n % (l.length : Int) := by omega
      have : (((n % (l.length : Int)).toNat % d : Nat) : Int) = (n % (l.length : Int)) % (d : Int) := by rw [Int.natCast_emod, q2]
      omega
    rw [this, q]
  intro n
  rw [at_, at_, Int.add_emod_right]
theorem of_per {l : List Bool} {d : Nat} (hd : 0 < d) (h : Per (cyc l) d) (hdl : d ≤ l.length) : ∀ k, k < l.length → l.getD k false = l.getD (k % d) false := by
  intro k hk
  have hlt := Nat.mod_lt k hd
  rw [← cyc_lt hk, ← cyc_lt (show k % d < l.length by omega)]
  have := h.mod (k : Int)
  rw [← this]; push_cast; rfl
/-- the same by shifts: what stands d further is alike -/
theorem shift_of {l : List Bool} {d : Nat} (hd : 0 < d) (h : ∀ k, k + d < l.length → l.getD (k + d) false = l.getD k false) : ∀ k, k < l.length → l.getD k false = l.getD (k % d) false := by
  intro k
  induction k using Nat.strongRecOn with
  | ind k ih =>
    intro hk
    rcases Nat.lt_or_ge k d with q | q
    · rw [Nat.mod_eq_of_lt q]
    · have e : k = (k - d) + d := by omega
      have := h (k - d) (by omega)
      rw [← e] at this
      rw [this, ih (k - d) (by omega) (by omega), e, Nat.add_mod_right]
      congr 2; omega
/-! ### a telling -/
structure Tl where
  lo : Int
  cs : List Bool
  us : List Bool
  ds : List Bool
def Tl.m (T : Tl) : Nat := T.us.length
def Tl.hi (T : Tl) : Int := T.lo + T.cs.length - 1
def Tl.U (T : Tl) : Int → Bool := cyc T.us
def Tl.D (T : Tl) : Int → Bool := cyc T.ds
def Tl.has (T : Tl) (n : Int) : Bool := if n < T.lo then T.D n else if T.hi < n then T.U n else T.cs.getD (n - T.lo).toNat false
structure Tl.Ok (T : Tl) : Prop where
  len : T.ds.length = T.us.length
  pos : 0 < T.us.length
theorem Tl.Ok.pu {T : Tl} (h : T.Ok) : Per T.U T.m := cyc_per
theorem Tl.Ok.pd {T : Tl} (h : T.Ok) : Per T.D T.m := by
  have := cyc_per (l := T.ds)
  rw [h.len] at this
  exact this
structure IsForm (h U D : Int → Bool) (lo hi : Int) (d : Nat) : Prop where
  least : Least U D d
  ends : ((∀ n, h n = U n) ∧ (∀ n, h n = D n) ∧ lo = 0 ∧ hi = -1) ∨
    (h hi ≠ U hi ∧ (∀ n, hi < n → h n = U n) ∧ lo ≤ hi + 1 ∧ (∀ n, n < lo → h n = D n) ∧ (lo = hi + 1 ∨ h lo ≠ D lo))
theorem IsForm.unique {h U D : Int → Bool} {lo hi lo' hi' : Int} {d d' : Nat} (a : IsForm h U D lo hi d) (b : IsForm h U D lo' hi' d') : lo = lo' ∧ hi = hi' ∧ d = d' := by
  refine ⟨?_, ?_, a.least.unique b.least⟩ <;> rcases a.ends with ⟨a1, a2, a3, a4⟩ | ⟨a1, a2, a3, a4, a5⟩ <;> rcases b.ends with ⟨b1, b2, b3, b4⟩ | ⟨b1, b2, b3, b4, b5⟩
  · omega
  · exact absurd (a1 _) b1
  · exact absurd (b1 _) a1
  · have e : hi = hi' := by
      rcases Int.lt_trichotomy hi hi' with q | q | q
      · exact absurd (a2 _ q) b1
      · exact q
      · exact absurd (b2 _ q) a1
    subst e
    rcases Int.lt_trichotomy lo lo' with q | q | q
    · rcases a5 with a5 | a5
      · omega
      · exact absurd (b4 _ q) a5
    · exact q
    · rcases b5 with b5 | b5
      · omega
      · exact absurd (a4 _ q) b5
  · omega
  · exact absurd (a1 _) b1
  · exact absurd (b1 _) a1
  · rcases Int.lt_trichotomy hi hi' with q | q | q
    · exact absurd (a2 _ q) b1
    · exact q
    · exact absurd (b2 _ q) a1
theorem IsForm.above {h U D : Int → Bool} {lo hi : Int} {d : Nat} (a : IsForm h U D lo hi d) {n : Int} (hn : hi < n) : h n = U n := by
  rcases a.ends with e | e
  · exact e.1 n
  · exact e.2.1 n hn
theorem IsForm.below {h U D : Int → Bool} {lo hi : Int} {d : Nat} (a : IsForm h U D lo hi d) {n : Int} (hn : n < lo) : h n = D n := by
  rcases a.ends with e | e
  · exact e.2.1 n
  · exact e.2.2.2.1 n hn
theorem IsForm.size {h U D : Int → Bool} {lo hi : Int} {d : Nat} (a : IsForm h U D lo hi d) : lo ≤ hi + 1 := by
  rcases a.ends with e | e
  · omega
  · exact e.2.2.1
/-! ### what holds of a telling beyond its window -/
theorem Tl.above {T : Tl} {n : Int} (h : T.hi < n) : T.has n = T.U n := by
  unfold Tl.has Tl.hi at *
  rw [if_neg (by omega), if_pos (by omega)]
theorem Tl.below {T : Tl} {n : Int} (h : n < T.lo) : T.has n = T.D n := by
  unfold Tl.has
  rw [if_pos h]
theorem Tl.core {T : Tl} {n : Int} (h : T.lo ≤ n) (h2 : n ≤ T.hi) : T.has n = T.cs.getD (n - T.lo).toNat false := by
  unfold Tl.has; rw [if_neg (by omega), if_neg (by omega)]
/-- a function that is alike on m numbers in a row below is alike below -/
theorem Tl.all_above {T : Tl} (ok : T.Ok) {a : Int} (ha : a ≤ T.lo) (h : ∀ n, a - T.m ≤ n → n < a → T.has n = T.U n) : ∀ n, n < a → T.has n = T.U n := by
  intro n hn
  have hm : (0 : Int) < (T.m : Int) := by have := ok.pos; unfold Tl.m; omega
  rw [Tl.below (show n < T.lo by omega)]
  have k0 := Int.emod_nonneg (n - (a - T.m)) (by omega : (T.m : Int) ≠ 0)
  have k1 := Int.emod_lt_of_pos (n - (a - T.m)) hm
  have q := h ((a - T.m) + (n - (a - T.m)) % (T.m : Int)) (by omega) (by omega)
  rw [Tl.below (by omega)] at q
  have cg : ((a - T.m) + (n - (a - T.m)) % (T.m : Int)) % (T.m : Int) = n % (T.m : Int) := by
    rw [Int.add_emod_emod]; congr 1; omega
  rw [ok.pd.cong cg, ok.pu.cong cg] at q
  exact q
end My
set_option linter.all false
namespace My
/-- n irow in a row from lo -/
def irow (lo : Int) (n : Nat) : List Int := (List.range n).map fun k => lo + (k : Nat)
theorem irow_succ (lo : Int) (n : Nat) : irow lo (n + 1) = irow lo n ++ [lo + (n : Nat)] := by
  unfold irow
  rw [List.range_succ, List.map_append]
  rfl
theorem mem_irow {lo x : Int} {n : Nat} : x ∈ irow lo n ↔ lo ≤ x ∧ x < lo + n := by
  unfold irow
  rw [List.mem_map]
  constructor
  · rintro ⟨k, hk, rfl⟩
    have := List.mem_range.mp hk
    omega
  · intro h
    exact ⟨(x - lo).toNat, List.mem_range.mpr (by omega), by omega⟩
def fil (P : Int → Bool) (lo : Int) (n : Nat) : List Int := (irow lo n).filter P
theorem fil_zero (P : Int → Bool) (lo : Int) : fil P lo 0 = [] := rfl
theorem fil_succ (P : Int → Bool) (lo : Int) (n : Nat) : fil P lo (n + 1) = fil P lo n ++ (if P (lo + (n : Nat)) = true then [lo + (n : Nat)] else []) := by
  unfold fil
  rw [irow_succ, List.filter_append]
  congr 1
  by_cases h : P (lo + (n : Nat)) = true
  · rw [if_pos h, List.filter_cons_of_pos h]; rfl
  · rw [if_neg h, List.filter_cons_of_neg h]; rfl
theorem fil_pos {P : Int → Bool} {lo : Int} {n : Nat} (h : P (lo + (n : Nat)) = true) : fil P lo (n + 1) = fil P lo n ++ [lo + (n : Nat)] := by
  rw [fil_succ, if_pos h]
theorem fil_neg {P : Int → Bool} {lo : Int} {n : Nat} (h : ¬ P (lo + (n : Nat)) = true) : fil P lo (n + 1) = fil P lo n := by
  rw [fil_succ, if_neg h, List.append_nil]
theorem mem_fil {P : Int → Bool} {lo x : Int} {n : Nat} : x ∈ fil P lo n ↔ (lo ≤ x ∧ x < lo + n) ∧ P x = true := by
  unfold fil
  rw [List.mem_filter, mem_irow]
theorem fil_len (P : Int → Bool) (lo : Int) (n : Nat) : (fil P lo n).length ≤ n := by
  unfold fil
  refine Nat.le_trans (List.length_filter_le _ _) ?_
  unfold irow
  simp
theorem fil_cong {P Q : Int → Bool} {lo : Int} {n : Nat} (h : ∀ x, lo ≤ x → x < lo + n → P x = Q x) : fil P lo n = fil Q lo n := by
  unfold fil
  refine List.filter_congr fun x hx => ?_
  have := mem_irow.mp hx
  exact h x this.1 this.2
theorem irow_asc (lo : Int) : ∀ n, (irow lo n).Pairwise (· < ·)
  | 0 => List.Pairwise.nil
  | n + 1 => by
    rw [irow_succ, List.pairwise_append]
    refine ⟨irow_asc lo n, List.pairwise_singleton _ _, fun a ha b hb => ?_⟩
    have h1 := mem_irow.mp ha
    rw [List.mem_singleton.mp hb]
    omega
theorem fil_asc (P : Int → Bool) (lo : Int) (n : Nat) : (fil P lo n).Pairwise (· < ·) := (irow_asc lo n).filter _
theorem fil_nodup (P : Int → Bool) (lo : Int) (n : Nat) : (fil P lo n).Nodup := (fil_asc P lo n).imp fun h => Int.ne_of_lt h
/-- the first and the last that P takes -/
theorem fil_first {P : Int → Bool} {lo : Int} {n : Nat} (hx : ∃ x, lo ≤ x ∧ x < lo + n ∧ P x = true) : ∃ v, (fil P lo n)[0]? = some v ∧ lo ≤ v ∧ v < lo + n ∧ P v = true ∧ ∀ x, lo ≤ x → x < v → P x = false := by
  obtain ⟨x, h1, h2, h3⟩ := hx
  have hm := mem_fil.mpr ⟨⟨h1, h2⟩, h3⟩
  have asc := fil_asc P lo n
  cases e : fil P lo n with
  | nil => rw [e] at hm; cases hm
  | cons v r =>
    rw [e] at asc
    have hv : v ∈ fil P lo n := by rw [e]; exact List.mem_cons_self
    have hv := mem_fil.mp hv
    refine ⟨v, rfl, hv.1.1, hv.1.2, hv.2, fun y hy hlt => ?_⟩
    cases q : P y with
    | false => rfl
    | true =>
      have hy2 : y ∈ fil P lo n := mem_fil.mpr ⟨⟨hy, by omega⟩, q⟩
      rw [e] at hy2
      rcases List.mem_cons.mp hy2 with z | z
      · omega
      · have := (List.pairwise_cons.mp asc).1 y z
        omega
theorem fil_last {P : Int → Bool} {lo : Int} {n : Nat} (hx : fil P lo n ≠ []) : ∃ r v, fil P lo n = r ++ [v] ∧ lo ≤ v ∧ v < lo + n ∧ P v = true ∧ ∀ x, v < x → x < lo + n → P x = false := by
  have asc := fil_asc P lo n
  refine ⟨(fil P lo n).dropLast, (fil P lo n).getLast hx, (List.dropLast_concat_getLast hx).symm, ?_⟩
  have hv := mem_fil.mp (List.getLast_mem hx)
  refine ⟨hv.1.1, hv.1.2, hv.2, fun y hlt hy => ?_⟩
  cases q : P y with
  | false => rfl
  | true =>
    have hy2 : y ∈ fil P lo n := mem_fil.mpr ⟨⟨by omega, hy⟩, q⟩
    rw [← List.dropLast_concat_getLast hx] at hy2 asc
    rcases List.mem_append.mp hy2 with z | z
    · have := (List.pairwise_append.mp asc).2.2 y z _ (List.mem_singleton.mpr rfl)
      omega
    · have := List.mem_singleton.mp z
      omega
theorem fil_nil {P : Int → Bool} {lo : Int} {n : Nat} (h : fil P lo n = []) : ∀ x, lo ≤ x → x < lo + n → P x = false := by
  intro x h1 h2
  cases q : P x with
  | false => rfl
  | true =>
    have := mem_fil.mpr ⟨⟨h1, h2⟩, q⟩
    rw [h] at this
    cases this
/-- the places of the flags -/
def res (bs : List Bool) : List Int := fil (fun k => bs.getD k.toNat false) 0 bs.length
theorem mem_res {bs : List Bool} {x : Int} : x ∈ res bs ↔ (0 ≤ x ∧ x < bs.length) ∧ bs.getD x.toNat false = true := by
  unfold res
  rw [mem_fil, Int.zero_add]
theorem rep_flat {α : Type} (x : α) : ∀ n, (List.replicate n [x]).flatten = List.replicate n x
  | 0 => rfl
  | n + 1 => by
    rw [List.replicate_succ, List.flatten_cons, rep_flat x n, List.replicate_succ]
    rfl
end My
set_option Elab.async false
set_option linter.all false
set_option maxRecDepth 100000
set_option maxHeartbeats 8000000
namespace My
open PySem PySem.Spec PyProof.Rows L2
local macro_rules | `(tactic| walk_at "lv") => `(tactic| first | exact Or.inl rfl | exact Or.inr rfl)
/-- the names of built-ins that the text does not take for itself -/
structure Nb (mg : Str → Option Value) : Prop where
  int : mg "int" = none
  bool : mg "bool" = none
  str : mg "str" = none
  list : mg "list" = none
  tuple : mg "tuple" = none
  isinstance : mg "isinstance" = none
  enumerate : mg "enumerate" = none
  abs : mg "abs" = none
  len : mg "len" = none
  range : mg "range" = none
  min : mg "min" = none
  all : mg "all" = none
  any : mg "any" = none
  verr : mg "ValueError" = none
section
variable {P : Program} {w : World} {K : PySem.W.Frag} {mg : Str → Option Value} {base : Heap}
/-! ### is_whole -/
def spWhole : Sp := fun vs H Q _ => ∃ a : Int, vs = [.int a] ∧ Q (.bl true) H
abbrev s_whole : Stmt := top 2
abbrev N_whole : List Str := ["thing"]
theorem sc_whole : FnScope N_whole ["thing"] (defScope s_whole) := ⟨rfl, rfl, rfl, by decide +kernel, rfl, by decide +kernel, by decide +kernel⟩
theorem kp_whole (F : At K mg "is_whole" s_whole) (N : Nb mg) : Keeps CX0 P w K mg base "is_whole" 1 ["thing"] spWhole := by
  refine keeps_of F sc_whole (fun _ _ _ _ _ _ us hl => match us, hl with | [_], _ => rfl) (fun vs H Q E h => ?_) (fun f cdv A outer s H vs Q E hr h => ?_)
  · obtain ⟨a, rfl, _⟩ := h
    rfl
  · obtain ⟨a, rfl, k⟩ := h
    refine ⟨_, (pss_one (ps_ret (pe_and (pe_callB call_isi (by rfl) N.isinstance boot_isinstance (pa_cons (pv 0) (pa_cons (pe_bltn (v := .ty "int") (by rfl) N.int (by decide +kernel) rfl) pa_nil))) (pe_one (pe_not (pe_callB call_isi (by rfl) N.isinstance boot_isinstance (pa_cons (pv 0) (pa_cons (pe_bltn (v := .ty "bool") (by rfl) N.bool (by decide +kernel) rfl) pa_nil)))))))), ?_⟩
    refine ⟨_, rfl, .int a, .ty "int", _, _, true, rfl, .ty "int", .base (.int a), kit_ty (by decide +kernel), _, rfl, ?_⟩
    exact ⟨_, rfl, .int a, .ty "bool", _, _, false, rfl, .ty "bool", .base (.int a), kit_ty (by decide +kernel), _, rfl, k⟩
/-! ### is_whole_from -/
def spWholeF : Sp := fun vs H Q _ => ∃ a lo hi : Int, vs = [.int a, .int lo, .int hi] ∧ Q (.bl (decide (lo ≤ a) && decide (a ≤ hi))) H
abbrev s_wholeF : Stmt := top 3
abbrev N_wholeF : List Str := ["thing", "low", "high"]
theorem sc_wholeF : FnScope N_wholeF ["thing", "low", "high"] (defScope s_wholeF) := ⟨rfl, rfl, rfl, by decide +kernel, rfl, by decide +kernel, by decide +kernel⟩
theorem kp_wholeF (F : At K mg "is_whole_from" s_wholeF) (G : Keeps CX0 P w K mg base "is_whole" 1 ["thing"] spWhole) : Keeps CX0 P w K mg base "is_whole_from" 2 ["thing", "low", "high"] spWholeF := by
  refine keeps_of F sc_wholeF (fun _ _ _ _ _ _ us hl => match us, hl with | [_, _, _], _ => rfl) (fun vs H Q E h => ?_) (fun f cdv A outer s H vs Q E hr h => ?_)
  · obtain ⟨a, lo, hi, rfl, _⟩ := h
    rfl
  · obtain ⟨a, lo, hi, rfl, k⟩ := h
    refine ⟨_, (pss_one (ps_ret (pe_and (pe_k G hr (by rfl) pass0 (pa_cons (pv 0) pa_nil)) (pe_one (pe_chain op_le op_le (pv 1) (pv 0) (pv 2)))))), ?_⟩
    refine ⟨_, rfl, a, rfl, _, rfl, ?_⟩
    refine ⟨_, rfl, _, rfl, _, _, rfl, rfl, _, rfl, ?_⟩
    by_cases h1 : lo ≤ a
    · rw [decide_eq_true h1] at k ⊢
      exact ⟨_, rfl, _, _, rfl, rfl, k⟩
    · rw [decide_eq_false h1] at k ⊢
      exact k
end
end My
set_option Elab.async false
set_option linter.all false
set_option maxRecDepth 100000
set_option maxHeartbeats 8000000
namespace My
open PySem PySem.Spec PyProof.Rows L2
local macro_rules | `(tactic| walk_at "lv") => `(tactic| first | exact Or.inl rfl | exact Or.inr rfl)
/-- a list or a tuple -/
def SqA (H : Hp) (a : Addr) (xs : List V) : Prop := H a = some (.lst xs) ∨ H a = some (.tup xs)
theorem SqA.same {H H' : Hp} {a : Addr} {xs : List V} (s : Same H H') (h : SqA H a xs) : SqA H' a xs := h.elim (fun h => .inl (s _ _ h)) fun h => .inr (s _ _ h)
theorem SqA.keep {H H' : Hp} {a : Addr} {xs : List V} (s : Same H H') (h : SqA H a xs) : H' a = H a := h.elim (fun h => by rw [s _ _ h, h]) fun h => by rw [s _ _ h, h]
theorem same_new {H H1 : Hp} {p : Addr} {o : HO} (s : Same H H1) (hp : H1 p = none) : Same H (upd H1 p o) := fun b u e => by
  rw [upd_ne (ne_of_none (s _ _ e) hp)]
  exact s _ _ e
/-- a walk of a name's list or tuple -/
def iSeqV (i : Nat) : TI := fun σ H R => ∃ a xs, σ[i]? = some (some (.ref a)) ∧ SqA H a xs ∧ ∀ J, Walk J xs.length (fun H' => H' a = H a) (YAt xs) → R J H
theorem pi_seqV {X : Cx} {tg l : Expr} {i : Nat} (h : PE X l (tVar i)) : PI X tg l (iSeqV i) := ⟨fun pins s σ H R I q => by
  obtain ⟨a, xs, e, hs, k⟩ := q
  rcases hs with hs | hs
  · exact (pi_list h).run pins s σ H R I ⟨.ref a, e, a, rfl, ⟨xs, SqL.of hs⟩, k _ (walk_list.mono (fun H' e => SqL.of (e.trans hs)) fun _ _ _ _ _ _ y => y)⟩
  · exact (pi_tup h).run pins s σ H R I ⟨.ref a, e, a, rfl, ⟨xs, SqT.of hs⟩, k _ (walk_tup.mono (fun H' e => SqT.of (e.trans hs)) fun _ _ _ _ _ _ y => y)⟩⟩
section
variable {P : Program} {w : World} {K : PySem.W.Frag} {mg : Str → Option Value} {base : Heap}
/-! ### is_sequence -/
def spSeq : Sp := fun vs H Q _ => ∃ a xs, vs = [.ref a] ∧ SqA H a xs ∧ ∀ H', Same H H' → Q (.bl true) H'
abbrev s_seq : Stmt := top 4
abbrev N_seq : List Str := ["thing"]
theorem sc_seq : FnScope N_seq ["thing"] (defScope s_seq) := ⟨rfl, rfl, rfl, by decide +kernel, rfl, by decide +kernel, by decide +kernel⟩
theorem kp_seq (F : At K mg "is_sequence" s_seq) (N : Nb mg) : Keeps CX0 P w K mg base "is_sequence" 1 ["thing"] spSeq := by
  refine keeps_of F sc_seq (fun _ _ _ _ _ _ us hl => match us, hl with | [_], _ => rfl) (fun vs H Q E h => ?_) (fun f cdv A outer s H vs Q E hr h => ?_)
  · obtain ⟨a, xs, rfl, _⟩ := h
    rfl
  · obtain ⟨a, xs, rfl, hs, k⟩ := h
    refine ⟨_, (pss_one (ps_ret (pe_callB call_isiT (by rfl) N.isinstance boot_isinstance (pa_cons (pv 0) (pa_cons (pe_tup (pa_cons (pe_bltn (v := .ty "list") (by rfl) N.list (by decide +kernel) rfl) (pa_cons (pe_bltn (v := .ty "tuple") (by rfl) N.tuple (by decide +kernel) rfl) pa_nil))) pa_nil))))), ?_⟩
    refine ⟨_, rfl, ⟨(by show 2 ≤ sizeLine; decide), fun t ht => ?_⟩⟩
    have s1 := same_new (o := .tup [V.ty "list", V.ty "tuple"]) (Same.refl H) ht
    rcases hs with hs | hs
    · exact ⟨.ref a, t, [.ty "list", .ty "tuple"], _, _, true, rfl, upd_same, .cons (.ty _) (.cons (.ty _) .nil), .base (.lst (s1 _ _ hs)), kitAny_cons (b := true) (kit_ty (by decide +kernel)) (fun z => nomatch z) (fun _ => rfl), k _ s1⟩
    · exact ⟨.ref a, t, [.ty "list", .ty "tuple"], _, _, true, rfl, upd_same, .cons (.ty _) (.cons (.ty _) .nil), .base (.tup (s1 _ _ hs)), kitAny_cons (b := false) (kit_ty (by decide +kernel)) (fun _ => kitAny_cons (b := true) (kit_ty (by decide +kernel)) (fun z => nomatch z) (fun _ => rfl)) (fun z => nomatch z), k _ s1⟩
/-! ### _check_core -/
/-! ### _are_unlike_from -/
end
end My
set_option linter.all false
namespace My
/-! ### a lot's data as a telling; moved, turned -/
section
variable {lo : Int} {n m : Nat} {xs us ds : List Int}
end
theorem dec_cong {p q : Prop} [Decidable p] [Decidable q] (h : p ↔ q) : decide p = decide q := by
  by_cases hq : q
  · rw [decide_eq_true (h.mpr hq), decide_eq_true hq]
  · rw [decide_eq_false (fun z => hq (h.mp z)), decide_eq_false hq]
section
variable {lo hi : Int} {m : Nat} {xs us ds : List Int}
end
end My
set_option Elab.async false
set_option linter.all false
set_option maxRecDepth 100000
set_option maxHeartbeats 8000000
namespace My
open PySem PySem.Spec PyProof.Rows L2
local macro_rules | `(tactic| walk_at "lv") => `(tactic| first | exact Or.inl rfl | exact Or.inr rfl)
/-! ### y = {k: v for ..} -/
section
variable {X : L2.Cx}
theorem sw_dict {kx vx : Expr} {gs : List Comprehension} {sc : Scope} {pos py : Pos} {y : Str} {l : Nat} {env : Env} (h1 : env.scope.kind = .function) (h2 : env.scope.names.lookup y = some .local) (h3 : (py.line == pos.line) = true)
    (h4 : (sc.names.any fun (n, k) => n == y && (k == .local || k == .cell)) = false) : swapsWith (.DictComp kx vx gs sc pos) (some (.Name y py)) l env = pure true := by
  have b1 : env.kindOf y = some .local := h2
  have b2 : env.blockKind = .function := by unfold Env.blockKind; rw [h1]; rfl
  unfold swapsWith
  simp only [b1, b2, h4, Expr.pos, h3]
  rfl
abbrev Blk (X : L2.Cx) (sc : Scope) (p : L2.Cx → Prop) : Prop := ∀ (s : Shared) (H : Hp) (C : Addr) (cl : List (Str × Addr)) (fp : List Addr), p (X.blk s H sc (compEnvC sc cl C X.env) fp)
theorem ps_setDc {i : Nat} {y : Str} {py : Pos} {kx vx tg iter : Expr} {ifs : List Expr} {sc : Scope} {own : List (Str × Nat)} {pos spos : Pos} {wi : TI} {g : TG} {tt : TT} {tk tv : TE} (c1 : X.calm = true) (c2 : X.N.Nodup) (c3 : X.N[i]? = some y) (c4 : X.env.scope.names.lookup y = some .local)
    (sw : swapsWith (.DictComp kx vx [⟨tg, iter, ifs, 0⟩] sc pos) (some (.Name y py)) spos.line X.env = pure true) (c5 : PI X tg iter wi) (c6 : BlkOk X.N X.env.scope sc own)
    (d1 : Blk X sc fun Y => PG Y tg g) (d2 : Blk X sc fun Y => PTs Y ifs tt) (d3 : Blk X sc fun Y => PE Y kx tk) (d4 : Blk X sc fun Y => PE Y vx tv) (c7 : ∀ x, foldedSetIterable iter X.env x = pure x := by intro _; rfl) :
    PS X (.Assign [.Name y py] (.DictComp kx vx [⟨tg, iter, ifs, 0⟩] sc pos) spos) (tAsg (tDc wi g tt tk tv (own.map (·.2))) (gName i)) := by
  refine ⟨fun pns s σ H D I h => ?_⟩
  rw [exec_Assign_Name_used _ _ _ _ sw]; refine wpAny_bind (wpAny_standAt (wpAny_bind ?_))
  show wpAny _ X.A (do let _ ← comprehension (.DictComp kx vx [⟨tg, iter, ifs, 0⟩] sc pos) sc X.env (firstIterPos [⟨tg, iter, ifs, 0⟩] pos) newDict false (eval iter X.env) (some (assign (.Name y py) X.env))) _ _ s
  have h' : tDc wi g tt tk tv (own.map (·.2)) σ H (fun x H1 => gName i x σ H1 D.nx) := h
  refine wpAny_bind (thn (dc_core (Qf := fun _ s' => SP X pns D .next s') c1 c2 I c5 c6 d1 d2 d3 d4 c7 h' fun L C s' m H' I' q hn f => ?_) fun _ s' hq => wpAny_pure (wpAny_pure hq))
  show wpAny _ _ (assign (.Name y py) X.env (.ref L)) _ _ _; refine wpAny_assign_Name (store_ok2 (v := V.ref L) I' c2 c3 (.inl c4) rfl (fun s2 I2 ⟨a, sb, ha⟩ => ?_) (.inr c4))
  have ⟨f0, f1, f2, f3, f4, f5⟩ := f
  have na : C ≠ a := ha.elim (fun z => by rw [z]; exact f1) fun z e => f4 y a z e.symm
  exact ⟨m, hn.sameBut sb na, fun h3 sb3 => ⟨_, H', I2.turned (t' := s2.toks) (fun b o nb e => (sb3.2 b nb).trans e) f0 f1 f3 f4 f5, q⟩⟩
end
end My
set_option Elab.async false
set_option linter.all false
set_option maxRecDepth 100000
set_option maxHeartbeats 8000000
namespace My
open PySem PySem.Spec PyProof.Rows L2
section
variable {X : L2.Cx}
/-! ### x in t, t a tuple of data -/
def rInT (K : PySem.W.Frag) : R2 := fun x y H Q => ∃ d ds, Dp K H x d ∧ Dp K H y (.tuple ds) ∧ SeqAt.shaped d = true ∧ SeqAt.shaped (.tuple ds) = true ∧ Q (.bl (ds.any fun z => PyData.eqv z d)) H
theorem op_inT (hu : X.A.units + 65 < cLine) : OpR X (compareOp .In) (rInT X.K) := by
  intro pins s σ H x y v u Q I rx ry h; obtain ⟨d, ds, hd, he, sd, se, q⟩ := h
  obtain ⟨as, r1⟩ := Dp.reads I d x v hd rx; obtain ⟨bs, r2⟩ := Dp.reads I (.tuple ds) y u he ry
  exact SeqAt.in_tuple_reads r2 r1 (SeqAt.canLay_of_shaped se) (SeqAt.canLay_of_shaped sd) (room_in_shaped sd hu) ⟨.bl _, H, I, rfl, q⟩
/-- math.lcm of two numbers -/
def rLcm : List V → Hp → VK → Prop := fun vs H Q => ∃ a b : Int, vs = [.int a, .int b] ∧ a.natAbs < 2 ^ 20 ∧ b.natAbs < 2 ^ 20 ∧ Q (.int ((Nat.lcm a.natAbs b.natAbs : Nat) : Int)) H
theorem cr_lcm : CallR X (.builtin "math.lcm") rLcm := by
  intro pins s σ H vs us Q I r h; obtain ⟨a, b, rfl, ha, hb, q⟩ := h
  obtain ⟨t, u, rfl⟩ := Vals.int2 r; exact PySem.W.mc_lcm (by omega) (by omega) fun _ => ⟨.int _, H, I.tok _, ⟨_, rfl⟩, q⟩
end
end My
set_option Elab.async false
set_option linter.all false
set_option maxRecDepth 100000
set_option maxHeartbeats 8000000
namespace My
open PySem PySem.Spec PyProof.Rows L2
local macro_rules | `(tactic| walk_at "lv") => `(tactic| first | exact Or.inl rfl | exact Or.inr rfl)
theorem log_small {n : Nat} (h : n ≤ 60000) : (n : Int).natAbs.log2 < 9000 := by
  have h2 : (n : Int).natAbs < 2 ^ 16 := by omega
  rcases Nat.eq_zero_or_pos (n : Int).natAbs with h0 | h0
  · rw [h0]; decide
  · have := (Nat.log2_lt (by omega)).mpr h2
    omega
section
variable {P : Program} {w : World} {K : PySem.W.Frag} {mg : Str → Option Value} {base : Heap}
/-! ### _law_whole -/
abbrev s_lwh : Stmt := top 41
abbrev N_lwh : List Str := ["_law_thing"]
theorem sc_lwh : FnScope N_lwh ["_law_thing"] (defScope s_lwh) := ⟨rfl, rfl, rfl, by decide +kernel, rfl, by decide +kernel, by decide +kernel⟩
theorem kp_lwh (F : At K mg "_law_whole" s_lwh) (N : Nb mg) : Keeps CX0 P w K mg base "_law_whole" 1 ["_law_thing"] spWhole := by
  refine keeps_of F sc_lwh (fun _ _ _ _ _ _ us hl => match us, hl with | [_], _ => rfl) (fun vs H Q E h => ?_) (fun f cdv A outer s H vs Q E hr h => ?_)
  · obtain ⟨a, rfl, _⟩ := h
    rfl
  · obtain ⟨a, rfl, k⟩ := h
    refine ⟨_, (pss_one (ps_ret (pe_and (pe_callB call_isi (by rfl) N.isinstance boot_isinstance (pa_cons (pv 0) (pa_cons (pe_bltn (v := .ty "int") (by rfl) N.int (by decide +kernel) rfl) pa_nil))) (pe_one (pe_not (pe_callB call_isi (by rfl) N.isinstance boot_isinstance (pa_cons (pv 0) (pa_cons (pe_bltn (v := .ty "bool") (by rfl) N.bool (by decide +kernel) rfl) pa_nil)))))))), ?_⟩
    refine ⟨_, rfl, .int a, .ty "int", _, _, true, rfl, .ty "int", .base (.int a), kit_ty (by decide +kernel), _, rfl, ?_⟩
    exact ⟨_, rfl, .int a, .ty "bool", _, _, false, rfl, .ty "bool", .base (.int a), kit_ty (by decide +kernel), _, rfl, k⟩
/-! ### _law_row_of -/
/-! ### _law_turned -/
theorem HandC.ne {H : Hp} {p c q : Addr} (h : HandC H p c) (hq : H q = none) : p ≠ q ∧ c ≠ q := by
  obtain ⟨_, _, _, _, h1, h2, _⟩ := h
  exact ⟨ne_of_none h1 hq, ne_of_none h2 hq⟩
theorem HandC.upd {H : Hp} {p c q : Addr} {o : HO} (h : HandC H p c) (h1 : p ≠ q) (h2 : c ≠ q) : HandC (upd H q o) p c := by
  obtain ⟨cs, i, r, t, e1, e2, e3⟩ := h
  exact ⟨cs, i, r, t, by rw [upd_ne h1]; exact e1, by rw [upd_ne h2]; exact e2, e3⟩
theorem HandC.same {H H' : Hp} {p c : Addr} (s : Same H H') (h : HandC H p c) : HandC H' p c := by
  obtain ⟨cs, i, r, t, e1, e2, e3⟩ := h
  exact ⟨cs, i, r, t, s _ _ e1, s _ _ e2, e3⟩
theorem But.of {p : Addr} {H H' : Hp} (s : Same H H') : But p H H' := fun b o _ e => s b o e
theorem But.trans {p : Addr} {H H1 H2 : Hp} (a : But p H H1) (b : But p H1 H2) : But p H H2 := fun c o hc e => b c o hc (a c o hc e)
/-! ### _law_has -/
/-! ### _law_parts -/
end
end My
set_option Elab.async false
set_option linter.all false
set_option maxRecDepth 100000
set_option maxHeartbeats 8000000
namespace My
open PySem PySem.Spec PyProof.Rows L2
/-! ### facts of the error classes -/
theorem and_ok {a b : Bool} (h : (a && b) = true) : a = true ∧ b = true := Bool.and_eq_true_iff.mp h
theorem clsB_ok {K : PySem.W.Frag} {C : Addr} {nm : Str} {bm : List Value} (h : clsB K C nm bm = true) :
    ∃ q N bs sn sub ab col dd k0 k1 k2 k3 k5, K.lookup C = some (excClassObj nm q C N bs bm true sn sub ab col dd k0 k1 k2 k3 k5 "ValueError.__new__") := by
  unfold clsB at h
  split at h
  · rename_i t dd cd sl lk
    obtain ⟨nm', bs, mro, ns, qn, hd, sn, sb, ab, col, del⟩ := cd
    obtain ⟨l⟩ := sl
    obtain ⟨ht, h⟩ := and_ok h
    have ht := of_decide_eq_true ht
    dsimp only at h
    split at h
    · rename_i C' r k0 k1 k2 k3 n k5
      obtain ⟨h1, h⟩ := and_ok h
      obtain ⟨h2, h⟩ := and_ok h
      obtain ⟨h3, h⟩ := and_ok h
      obtain ⟨h4, h⟩ := and_ok h
      obtain ⟨h5, h6⟩ := and_ok h
      have h1 := of_decide_eq_true h1
      have h2 := of_decide_eq_true h2
      have h3 : del = false := by simpa using h3
      have h4 : hd = true := h4
      have h5 := of_decide_eq_true h5
      have h6 := of_decide_eq_true h6
      rw [lk, ht, h1, h2, h3, h4, h5, h6]
      exact ⟨_, _, _, _, _, _, _, _, _, _, _, _, _, rfl⟩
    · cases h
  · cases h
/-- what is told of an error class x with the attributes fs; b: the class above it -/
structure ExF (K : PySem.W.Frag) (mg : Str → Option Value) (x b : Str) (fs : List Str) : Prop where
  g : mg x = some (.ref (He.ga K x))
  lk : ∃ q N bs sn sub ab col dd k0 k1 k2 k3 k5, K.lookup (He.ga K x) = some (excClassObj x q (He.ga K x) N bs (.ref (He.ga K b) :: He.veBase) true sn sub ab col dd k0 k1 k2 k3 k5 "ValueError.__new__")
  sa : PySem.W.findIn K (.ref (He.ga K x)) "__setattr__" = some (some (.builtin "object.__setattr__"))
  exC : PySem.W.subIn K (.ref (He.ga K x)) (.type "BaseException") = some true
  kC : PySem.W.keepIn K (.ref (He.ga K x)) = true
  ga : PySem.W.findIn K (.ref (He.ga K x)) "__getattribute__" = some (some (.builtin "BaseException.__getattribute__"))
  gg : PySem.W.findIn K (.ref (He.ga K x)) "__getattr__" = some none
  ca : PySem.W.findIn K (.ref (He.ga K x)) "__class__" = some (some (.builtin "object.__class__"))
  mo : PySem.W.mroIn K (He.ga K x) (.type "object") = some true
  no : ∀ f ∈ fs, PySem.W.findIn K (.ref (He.ga K x)) f = some none
  kB : PySem.W.kitOne K (.ref (He.ga K x)) (.ref (He.ga K b)) = some true
  kV : PySem.W.kitOne K (.ref (He.ga K x)) (.type "ValueError") = some true
  xm : PySem.W.exmOne K (.ref (He.ga K x)) (.ref (He.ga K b)) = some true
  new : fs = [] → PySem.W.excIn K (He.ga K x) He.veBase "ValueError.__new__" = true
  ini : fs ≠ [] → PySem.W.findIn K (.ref (He.ga K x)) "__init__" = some (some (.ref (He.ma K (He.ga K x) "__init__"))) ∧ PySem.W.typeIn K (.ref (He.ma K (He.ga K x) "__init__")) = some (.type "function")
theorem exB_ok {K : PySem.W.Frag} {h : Heap} {mg : Str → Option Value} (X : K.In h) (G : h.Ns mainGlobals mg) {x b : Str} {fs : List Str} (c : exB K b (x, fs) = true) : ExF K mg x b fs := by
  obtain ⟨c1, c⟩ := and_ok c
  obtain ⟨c2, c⟩ := and_ok c
  obtain ⟨c3, c⟩ := and_ok c
  obtain ⟨c4, c⟩ := and_ok c
  obtain ⟨c5, c⟩ := and_ok c
  obtain ⟨c6, c⟩ := and_ok c
  obtain ⟨c7, c⟩ := and_ok c
  obtain ⟨c8, c⟩ := and_ok c
  obtain ⟨c9, c⟩ := and_ok c
  obtain ⟨c10, c⟩ := and_ok c
  obtain ⟨c11, c⟩ := and_ok c
  obtain ⟨c12, c⟩ := and_ok c
  obtain ⟨c13, c⟩ := and_ok c
  refine ⟨He.glo_ok X G c1, clsB_ok c2, of_decide_eq_true c3, of_decide_eq_true c4, c5, of_decide_eq_true c6, of_decide_eq_true c7, of_decide_eq_true c8, of_decide_eq_true c9, fun f hf => of_decide_eq_true (List.all_eq_true.mp c10 f hf), of_decide_eq_true c11, of_decide_eq_true c12, of_decide_eq_true c13, fun e => ?_, fun e => ?_⟩
  · subst e
    exact c
  · cases fs with
    | nil => exact absurd rfl e
    | cons f r =>
      obtain ⟨d1, d2⟩ := and_ok c
      exact ⟨of_decide_eq_true d1, of_decide_eq_true d2⟩
section
variable {K : PySem.W.Frag} {mg : Str → Option Value} {x b : Str} {fs : List Str}
theorem ExF.ty (T : ExF K mg x b fs) : PySem.W.typeIn K (.ref (He.ga K x)) = some (.type "type") := by
  obtain ⟨q, N, bs, sn, sub, ab, col, dd, k0, k1, k2, k3, k5, lk⟩ := T.lk
  show ((K.lookup (He.ga K x)).map (·.cls)) = _
  rw [lk]
  rfl
theorem ExF.cl (T : ExF K mg x b fs) : (PySem.W.clsIn K (He.ga K x)).isSome = true := by
  obtain ⟨q, N, bs, sn, sub, ab, col, dd, k0, k1, k2, k3, k5, lk⟩ := T.lk
  unfold PySem.W.clsIn
  rw [lk]
  rfl
theorem ExF.dict (T : ExF K mg x b fs) : PySem.W.hasDictIn K (He.ga K x) = true := by
  obtain ⟨q, N, bs, sn, sub, ab, col, dd, k0, k1, k2, k3, k5, lk⟩ := T.lk
  unfold PySem.W.hasDictIn PySem.W.clsIn
  rw [lk]
  rfl
theorem ExF.ox (T : ExF K mg x b fs) : OexC K (He.ga K x) := by
  obtain ⟨q, N, bs, sn, sub, ab, col, dd, k0, k1, k2, k3, k5, lk⟩ := T.lk
  exact ⟨⟨x, q, N, bs, _, sn, sub, ab, col, dd, k0, k1, k2, k3, k5, lk, (show PySem.HandSPX.refsVE He.veBase = true by decide +kernel)⟩, T.sa, T.exC, T.ty, T.kC⟩
/-- two of them: is the one the other -/
theorem kit_two {y : Str} {gs : List Str} (T : ExF K mg x b fs) (U : ExF K mg y b gs) (hb : y ≠ b) (hB : ∃ q N bs bm sn sub ab col dd k0 k1 k2 k3 k5 nid, K.lookup (He.ga K b) = some (excClassObj b q (He.ga K b) N bs bm true sn sub ab col dd k0 k1 k2 k3 k5 nid)) :
    PySem.W.kitOne K (.ref (He.ga K x)) (.ref (He.ga K y)) = some (decide (x = y)) := by
  by_cases e : x = y
  · subst e
    rw [decide_eq_true rfl]
    exact if_pos (by simp)
  · rw [decide_eq_false e]
    obtain ⟨q, N, bs, sn, sub, ab, col, dd, k0, k1, k2, k3, k5, lx⟩ := T.lk
    obtain ⟨q', N', bs', sn', sub', ab', col', dd', k0', k1', k2', k3', k5', ly⟩ := U.lk
    obtain ⟨q2, N2, bs2, bm2, sn2, sub2, ab2, col2, dd2, m0, m1, m2, m3, m5, nid, lb⟩ := hB
    have n1 : He.ga K x ≠ He.ga K y := fun z => by
      rw [z, ly] at lx
      have z1 := Option.some.inj lx
      simp only [excClassObj, Obj.mk.injEq, Data.cls.injEq, ClassData.mk.injEq] at z1
      exact e z1.2.2.1.1.symm
    have n2 : He.ga K b ≠ He.ga K y := fun z => by
      rw [z, ly] at lb
      have z1 := Option.some.inj lb
      simp only [excClassObj, Obj.mk.injEq, Data.cls.injEq, ClassData.mk.injEq] at z1
      exact hb z1.2.2.1.1
    have n3 : ¬ ((Value.ref (He.ga K x) == Value.ref (He.ga K y)) = true) := fun z => n1 (Value.ref.inj (beq_iff_eq.mp z))
    unfold PySem.W.kitOne
    rw [if_neg n3]
    show (if ((PySem.W.clsIn K (He.ga K y)).isSome && PySem.W.typeIn K (.ref (He.ga K y)) == some (.type "type")) = true then PySem.W.subIn K (.ref (He.ga K x)) (.ref (He.ga K y)) else none) = some false
    rw [if_pos (by rw [U.cl, U.ty]; rfl)]
    show PySem.W.mroIn K (He.ga K x) (.ref (He.ga K y)) = some false
    unfold PySem.W.mroIn PySem.W.clsIn
    rw [lx]
    have c1 : (Value.ref (He.ga K y) == Value.ref (He.ga K x)) = false := by
      rw [beq_eq_false_iff_ne]
      exact fun z => n1 (Value.ref.inj z).symm
    have c2 : (Value.ref (He.ga K y) == Value.ref (He.ga K b)) = false := by
      rw [beq_eq_false_iff_ne]
      exact fun z => n2 (Value.ref.inj z).symm
    simp [List.contains_cons, c1, c2, He.veBase]
    exact ⟨fun z => n1 z.symm, fun z => n2 z.symm⟩
end
end My

namespace My
open PySem PySem.Spec PyProof.Rows L2
/-! ### errors as values: made, asked for their class, read -/
section
variable {X : Cx} {e : Expr} {es : List Expr} {ta : TA} {te : TE} {p pos : Pos} {x b n : Str} {fs : List Str}
/-- X(), no __init__ of its own -/
theorem pe_exv0 (T : ExF X.K X.mg x b fs) (nf : fs = []) (hg : Gl X x) (dbg : (x == ("__debug__" : Str)) = false := by decide) :
    PE X (.Call (.Name x p) [] [] pos) (fun _ H Q => ∀ a, H a = none → Q (.ref a) (upd H a (exo a (He.ga X.K x) none))) := by
  refine ⟨fun pins s σ H Q I h => ?_⟩
  refine wpAny_Call_Name_kw (ld_glob I hg T.g ?_ dbg)
  refine PySem.W.callWith_K0 I.kIn T.kC ?_
  show wpAny _ _ (call (.ref (He.ga X.K x)) []) _ _ _
  obtain ⟨bm, N, nm, qn, bs, hdct, sn, sub, ab, col, dd, k0, k1, k2, k3, k5, mN, hC, hN, hni, TL⟩ := exc_obj I.kIn (T.new nf)
  refine wpAny_call_exc_subT PySem.F.excBase_ValueError TL hC hN hni (fun h' a hm => ?_) (by show 0 ≤ sizeLine; exact Nat.zero_le _)
  have hn : H a = none := I.hok.gone hm.new
  obtain ⟨tt, et, _, _⟩ := hm.there
  exact ⟨.ref a, _, I.laidN hm.keeps hm.new hn (exo_ok et), rfl, h a hn⟩
/-- the reading of X(e, ..) with an __init__ that keeps sp -/
def tExv (C : Addr) (sp : Sp) (ta : TA) : TE := fun σ H Q => ta σ H fun vs H1 => vs.length ≤ 1000 ∧ ∀ a, H1 a = none →
  sp (.ref a :: vs) (upd H1 a (exo a C none)) (fun v H2 => v = .non ∧ Q (.ref a) H2) fun _ _ _ => False
theorem pe_exv {CX : CXT} {k : Nat} {fI : Addr} {fd : FuncData} {ps : List Str} {sp : Sp} (T : ExF X.K X.mg x b fs) (nf : fs ≠ []) (ef : fI = He.ma X.K (He.ga X.K x) "__init__") (F1 : FnOk X.prog X.w X.K X.mg X.base CX k fI fd ps sp)
    (hr : Room (k + 1) X.A) (hb : Binds X.K fd ps []) (hx : Passes CX X (fun _ _ _ => False)) (hg : Gl X x) (ha : PA X (e :: es) ta)
    (dbg : (x == ("__debug__" : Str)) = false := by decide) (hst : starEach (e :: es) X.env = (false, eval e X.env) :: starEach es X.env := by rfl) (hpl : (backTo pos (starEach es X.env)).any (·.1) = false := by rfl) :
    PE X (.Call (.Name x p) (e :: es) [] pos) (tExv (He.ga X.K x) sp ta) := by
  subst ef
  refine ⟨fun pins s σ H Q I h => ?_⟩
  obtain ⟨iC, tI⟩ := T.ini nf
  obtain ⟨nm, q, N, bs, bm, sn, sub, ab, col, dd, k0, k1, k2, k3, k5, hC, hbm⟩ := T.ox.cls
  refine wpAny_Call_Name_kw (ld_glob I hg T.g ?_ dbg)
  refine PySem.W.callWith_K (h₀ := X.base) I.ok.mod.kin T.kC ?_ hst hpl
  refine thn (ha.run pos pins s σ H _ I h) fun us s1 hh => ?_
  obtain ⟨vs, H1, I1, r1, hz, q1⟩ := hh
  refine ⟨I1.kIn, ?_⟩
  show wpAny _ _ (call (.ref (He.ga X.K x)) us) _ _ _
  obtain ⟨hp, g, dr, tk, os⟩ := s1
  have hup : hp.objs.size ≤ hp.objs.size + 1 := Nat.le_succ _
  have hfr : H1 (hp.objs.size + 1) = none := I1.hok.fresh hup
  have hq := q1 _ hfr
  let h2 : Heap := (hp.push (PySem.W.kdv_tup us)).push (PySem.HandSPX.excO (He.ga X.K x) hp.objs.size)
  have kk : ∀ a o, hp.get? a = some o → h2.get? a = some o := fun a o z => Heap.get?_push_of_some _ (Heap.get?_push_of_some _ z)
  have hget : h2.get? (hp.objs.size + 1) = some (PySem.HandSPX.excO (He.ga X.K x) hp.objs.size) := by
    show ((hp.push (PySem.W.kdv_tup us)).push (PySem.HandSPX.excO (He.ga X.K x) hp.objs.size)).get? _ = _
    heap_get
  have I2 : Inv X pins σ (upd H1 (hp.objs.size + 1) (exo (hp.objs.size + 1) (He.ga X.K x) none)) ⟨h2, g, dr, tk, os⟩ := I1.laid (t' := tk) (h' := h2) kk hup (exo_ok hget)
  have rr : Vals (V.ref (hp.objs.size + 1) :: vs) (Value.ref (hp.objs.size + 1) :: us) := .cons rfl r1
  have hl : (Value.ref (hp.objs.size + 1) :: us).length = ps.length := by
    rw [← rr.length]
    exact F1.len _ _ _ _ hq
  have few : us.length ≤ sizeLine := by rw [← r1.length, sizeLine_eq]; omega
  have hbb := hb ⟨h2, g, dr, tk, os⟩ (Value.ref (hp.objs.size + 1) :: us) I2.kIn (by rw [List.append_nil]; exact hl)
  rw [List.append_nil] at hbb
  refine wpAny_call (PySem.HandSPX.call_own PySem.F.excBase_ValueError (fun Y => PySem.HandSPX.refsVE_contains Y bm hbm) (I1.kIn _ _ hC) (PySem.W.looks_findIn I1.kIn iC) (fun self => PySem.W.bind_fn I1.kIn self tI) few ?_)
  refine codeAny_mono (F1.run _ X.stack _ _ ⟨Value.ref (hp.objs.size + 1) :: us, []⟩ _ _ _ (fun _ _ _ => False) (hr.make (He.ga X.K x) us []) (I2.env0.make (He.ga X.K x) us []) hbb rr hq) fun r s' out => ?_
  cases r with
  | error er => exact hx pins σ _ _ er s' I2 out
  | ok fl =>
    cases fl with
    | ret u =>
      obtain ⟨v, H2, os2, bare2, un2, hok2, rv, ev, q2⟩ := out
      subst ev
      exact ⟨rv, .ref (hp.objs.size + 1), H2, I2.call' (ch := []) os2 un2 hok2 bare2 (fun b z => absurd z (by simp)), rfl, q2⟩
    | next => exact out.elim
    | brk => exact out.elim
    | cont => exact out.elim
/-- what the state knows of the error at a: tracked, or held by the suite -/
def ExKnown (H : Hp) (pn : List (Addr × Obj)) (C a : Addr) : Prop := (∃ d, H a = some (exo a C d) ∧ ∀ dd, d = some dd → ∃ fs, H dd = some (exd dd fs)) ∨
  ∃ oe, (a, oe) ∈ pn ∧ oe.cls = .ref C ∧ (∃ vs, oe.data = .fields vs) ∧ ∀ dd, oe.dict = some dd → ∃ fs, H dd = some (.xd fs)
/-- isinstance(e, c) -/
def rIsx (K : PySem.W.Frag) (mg : Str → Option Value) (pn : List (Addr × Obj)) : List V → Hp → VK → Prop := fun xs H Q => ∃ (a : Addr) (c : V) (cv : Value) (y z : Str) (gs : List Str) (r : Bool), xs = [.ref a, c] ∧ (∀ u, RelV c u → u = cv) ∧ ExF K mg y z gs ∧
  ExKnown H pn (He.ga K y) a ∧ PySem.W.kitOne K (.ref (He.ga K y)) cv = some r ∧ Q (.bl r) H
theorem call_isx (hn : PySem.W.specialIn X.K (.builtin "object.__class__") "__get__" = some (some (.builtin "getset_descriptor.__get__"))) (ht : PySem.W.takesIn X.K (.builtin "object.__class__") = some true) :
    CallR X (.builtin "isinstance") (rIsx X.K X.mg X.pn) := by
  intro pns s σ H xs us Q I r h
  obtain ⟨a, c, cv, y, z, gs, b, rfl, hcv, T, kn, e, q⟩ := h
  cases r with
  | cons rx rr =>
    cases rr with
    | cons rt rr =>
      cases rr
      cases rx
      have ec := hcv _ rt
      subst ec
      obtain ⟨oe, od, J⟩ : ∃ oe od, PySem.W.InstAt s.heap a oe (He.ga X.K y) od := by
        rcases kn with ⟨d, ea, hd⟩ | ⟨oe, hp, h1, ⟨vs, h2⟩, h3⟩
        · obtain ⟨t1, ho⟩ := exo_at I.hok ea
          cases d with
          | none => exact ⟨_, none, ⟨ho, rfl, rfl, trivial⟩⟩
          | some dd =>
            obtain ⟨f2, ed⟩ := hd dd rfl
            obtain ⟨mA, hns, _⟩ := exd_at I.hok ed
            obtain ⟨o2, ho2, _⟩ := lookIn_ns hns
            exact ⟨_, some o2, ⟨ho, rfl, rfl, ho2⟩⟩
        · obtain ⟨hget, _⟩ := I.pin (a, oe) (List.mem_append.mpr (.inl hp))
          obtain ⟨oc, dct, oda, osl⟩ := oe
          dsimp only at h1 h2 h3
          subst h1 h2
          cases dct with
          | none => exact ⟨_, none, ⟨hget, rfl, rfl, trivial⟩⟩
          | some dd =>
            obtain ⟨f2, ed⟩ := h3 dd rfl
            obtain ⟨mA, hns, _⟩ := (show ObjOk X.prog X.w H s.heap dd (.xd f2) from I.hok dd _ ed)
            obtain ⟨o2, ho2, _⟩ := lookIn_ns hns
            exact ⟨_, some o2, ⟨hget, rfl, rfl, ho2⟩⟩
      exact PySem.W.kia_one (PySem.W.kitx_exc T.cl T.ga T.gg T.exC T.ca hn ht T.mo) I.kIn J e (fun z => nomatch z) fun tk => ⟨.bl b, H, I.tok tk, rfl, q⟩
/-- e.f of a tracked error -/
def tXat (K : PySem.W.Frag) (mg : Str → Option Value) (f : Str) (te : TE) : TE := fun σ H Q => te σ H fun v H1 => ∃ (a d : Addr) (y z : Str) (gs : List Str) (fs : List (Str × V)) (u : V), v = .ref a ∧ ExF K mg y z gs ∧ f ∈ gs ∧
  H1 a = some (exo a (He.ga K y) (some d)) ∧ H1 d = some (exd d fs) ∧ fs.lookup f = some u ∧ Q u H1
theorem pe_xat (he : PE X e te) (hb : attributeBase e n X.env (eval e X.env) = eval e X.env := by rfl) : PE X (.Attribute e n pos) (tXat X.K X.mg n te) := by
  refine ⟨fun pins s σ H Q I h => ?_⟩
  refine attr_of hb (thn (he.run pins s σ H _ I h) fun u s1 hh => ?_)
  obtain ⟨v, H1, I1, rv, a, d, y, z, gs, fs, w, rfl, T, hf, ea, ed, l, q⟩ := hh
  cases rv
  obtain ⟨t1, ho⟩ := exo_at I1.hok ea
  obtain ⟨mA, hns, hr⟩ := exd_at I1.hok ed
  obtain ⟨od, hod, hl⟩ := lookIn_ns hns
  obtain ⟨uw, hu, ru⟩ := RelO.some_of (v := w) (o := mA n) (by rw [← l]; exact hr n)
  have J : PySem.W.InstAt s1.heap a _ (He.ga X.K y) (some od) := ⟨ho, rfl, rfl, hod⟩
  exact HandSPX.exc_get I1.kIn J T.ga T.gg T.exC (PySem.W.findObj_own T.dict (T.no n hf) rfl (by rw [hl, hu])) (handed_of ru) ⟨w, H1, I1.tok _, ru, q⟩
end
end My

namespace My
open PySem PySem.Spec PyProof.Rows L2
/-! ### the __init__ of an error -/
def spIni (C : Addr) (fs : List Str) : Sp := fun vs H Q _ => ∃ (a : Addr) (ys : List V), vs = .ref a :: ys ∧ ys.length = fs.length ∧ H a = some (exo a C none) ∧
  ∀ d H', H d = none → d ≠ a → H' a = some (exo a C (some d)) → H' d = some (exd d (fs.zip ys).reverse) → (∀ b o, b ≠ a → H b = some o → H' b = some o) → Q .non H'
/-- the def __init__ of the class x, as it stands -/
def AtI (K : PySem.W.Frag) (x q : Str) (st : Stmt) : Prop := ∃ fd, FunD K "__init__" q (defArgs st) (defBody st) (defScope st) [] [] (He.ma K (He.ga K x) "__init__") fd
def KeepsI (P : Program) (w : World) (K : PySem.W.Frag) (mg : Str → Option Value) (base : Heap) (x : Str) (fs : List Str) : Prop :=
  ∃ fd, FnOk P w K mg base CX0 1 (He.ma K (He.ga K x) "__init__") fd ("self" :: fs) (spIni (He.ga K x) fs) ∧ Binds K fd ("self" :: fs) []
section
variable {P : Program} {w : World} {K : PySem.W.Frag} {mg : Str → Option Value} {base : Heap}
abbrev bindsI (st : Stmt) (q : Str) (ps : List Str) : Prop := ∀ (kV doc pm : Value) (an : Option Addr) (cdv ct : Value) (us : List Value), us.length = ps.length → bindArgs (PySem.W.fnOf "__init__" q (defArgs st) (defBody st) (defScope st) .none kV doc pm an cdv ct) ⟨us, []⟩ = pure (ps.zip us)
theorem ini_of {x q : Str} {st : Stmt} {fs : List Str} (F : AtI K x q st) (S : FnScope ("self" :: fs) ("self" :: fs) (defScope st)) (hb : bindsI st q ("self" :: fs))
    (hbody : ∀ (fd : FuncData) (cdv : Value) (A : Around) (outer : List Env) (s : Shared) (H : Hp) (vs : List V) (Q : VK) (E : XK), spIni (He.ga K x) fs vs H Q E →
      ∃ t, PSs (cxOf CX0 P w K mg base ("self" :: fs) q (defScope st) (He.ma K (He.ga K x) "__init__") cdv A outer s H E).nox (defBody st) t ∧ t { nx := fun _ H' => Q .non H', rt := Q } (start ("self" :: fs) vs) H) :
    KeepsI P w K mg base x fs := by
  obtain ⟨fd, F⟩ := F
  refine ⟨fd, F.ok S (fun vs H Q E h => ?_) (fun cdv A outer s H vs Q E hr h => ?_), F.bindsN hb⟩
  · obtain ⟨a, ys, rfl, hl, _⟩ := h
    simp only [List.length_cons, hl]
  · obtain ⟨t, h1, h2⟩ := hbody fd cdv A outer s H vs Q E h
    exact ⟨t, h1.nox, h2⟩
theorem one_of {ys : List V} (h : ys.length = 1) : ∃ y, ys = [y] := match ys, h with | [y], _ => ⟨y, rfl⟩
theorem two_of {ys : List V} (h : ys.length = 2) : ∃ y z, ys = [y, z] := match ys, h with | [y, z], _ => ⟨y, z, rfl⟩
theorem three_of {ys : List V} (h : ys.length = 3) : ∃ y z u, ys = [y, z, u] := match ys, h with | [y, z, u], _ => ⟨y, z, u, rfl⟩
end
end My
set_option Elab.async false
set_option linter.all false
set_option maxRecDepth 100000
set_option maxHeartbeats 8000000
namespace My
open PySem PySem.Spec PyProof.Rows L2
local macro_rules | `(tactic| walk_at "lv") => `(tactic| first | exact Or.inl rfl | exact Or.inr rfl)
/-! ### letters and tests as data -/
inductive Lt where
  | set (v : Int)
  | add (v : Int)
  | turn
  | mod (m : Nat)
inductive Ts where
  | below (v : Int)
  | is (v : Int)
  | rest (m : Nat) (r : Int)
def Lt.vs : Lt → List V
  | .set v => [.str "set", .int v]
  | .add v => [.str "add", .int v]
  | .turn => [.str "turn"]
  | .mod m => [.str "mod", .int m]
def Ts.vs : Ts → List V
  | .below v => [.str "below", .int v]
  | .is v => [.str "is", .int v]
  | .rest m r => [.str "rest", .int m, .int r]
def Lt.deed : Lt → Int → Int
  | .set v, _ => v
  | .add v, n => n + v
  | .turn, n => -n
  | .mod m, n => n % (m : Int)
def Ts.pass : Ts → Int → Bool
  | .below v, n => decide (n < v)
  | .is v, n => decide (n = v)
  | .rest m r, n => decide (n % (m : Int) = r)
def Lt.Ok : Lt → Prop
  | .set v => -20 ≤ v ∧ v ≤ 20
  | .add v => -20 ≤ v ∧ v ≤ 20
  | .turn => True
  | .mod m => 1 ≤ m ∧ m ≤ 6
def Ts.Ok : Ts → Prop
  | .below v => -20 ≤ v ∧ v ≤ 20
  | .is v => -20 ≤ v ∧ v ≤ 20
  | .rest m r => (1 ≤ m ∧ m ≤ 6) ∧ 0 ≤ r ∧ r < m
theorem iteS {x : Str} {p q : Prop} (h : p) : if decide (V.str x = V.str x) = true then p else q := by
  rw [if_pos (decide_eq_true rfl)]
  exact h
theorem iteN {x y : Str} {p q : Prop} (hne : x ≠ y) (h : q) : if decide (V.str x = V.str y) = true then p else q := by
  rw [if_neg (by rw [decide_eq_false fun z => hne (V.str.inj z)]; exact Bool.false_ne_true)]
  exact h
theorem vint {a b : Int} : decide (V.int a = V.int b) = decide (a = b) := dec_cong ⟨fun h => V.int.inj h, fun h => by rw [h]⟩
section
variable {P : Program} {w : World} {K : PySem.W.Frag} {mg : Str → Option Value} {base : Heap}
/-! ### do_letter -/
def spDeed : Sp := fun vs H Q _ => ∃ (a : Addr) (L : Lt) (n : Int), vs = [.ref a, .int n] ∧ H a = some (.tup L.vs) ∧ L.Ok ∧ Q (.int (L.deed n)) H
abbrev s_do : Stmt := top 15
abbrev N_do : List Str := ["letter", "number"]
theorem sc_do : FnScope N_do ["letter", "number"] (defScope s_do) := ⟨rfl, rfl, rfl, by decide +kernel, rfl, by decide +kernel, by decide +kernel⟩
theorem kp_do (F : At K mg "do_letter" s_do) : Keeps CX0 P w K mg base "do_letter" 1 ["letter", "number"] spDeed := by
  refine keeps_of F sc_do (fun _ _ _ _ _ _ us hl => match us, hl with | [_, _], _ => rfl) (fun vs H Q E h => ?_) (fun f cdv A outer s H vs Q E hr h => ?_)
  · obtain ⟨a, L, n, rfl, _⟩ := h
    rfl
  · obtain ⟨a, L, n, rfl, ha, ok, k⟩ := h
    refine ⟨_, (pss_cons (ps_if (pt_cmpR op_eq (pe_ix ix_tup (pv 0) pe_int (fun _ _ => rfl)) pe_str (nomark _)) (pss_one (ps_ret (pe_ix ix_tup (pv 0) pe_int (fun _ _ => rfl)))) pss_nil)
        (pss_cons (ps_if (pt_cmpR op_eq (pe_ix ix_tup (pv 0) pe_int (fun _ _ => rfl)) pe_str (nomark _)) (pss_one (ps_ret (pe_op op_add (pv 1) (pe_ix ix_tup (pv 0) pe_int (fun _ _ => rfl))))) pss_nil)
        (pss_cons (ps_if (pt_cmpR op_eq (pe_ix ix_tup (pv 0) pe_int (fun _ _ => rfl)) pe_str (nomark _)) (pss_one (ps_ret (pe_un un_neg (pv 1)))) pss_nil)
        (pss_one (ps_ret (pe_op op_mod (pv 1) (pe_ix ix_tup (pv 0) pe_int (fun _ _ => rfl)))))))), ?_⟩
    cases L with
    | set v =>
      refine ⟨_, rfl, a, _, _, _, rfl, rfl, SqT.of ha, rfl, rfl, _, rfl, iteS ?_⟩
      exact ⟨_, rfl, a, _, _, _, rfl, rfl, SqT.of ha, rfl, k⟩
    | add v =>
      refine ⟨_, rfl, a, _, _, _, rfl, rfl, SqT.of ha, rfl, rfl, _, rfl, iteN (by decide) ?_⟩
      refine ⟨_, rfl, a, _, _, _, rfl, rfl, SqT.of ha, rfl, rfl, _, rfl, iteS ?_⟩
      exact ⟨_, rfl, _, rfl, a, _, _, _, rfl, rfl, SqT.of ha, rfl, _, _, rfl, rfl, k⟩
    | turn =>
      refine ⟨_, rfl, a, _, _, _, rfl, rfl, SqT.of ha, rfl, rfl, _, rfl, iteN (by decide) ?_⟩
      refine ⟨_, rfl, a, _, _, _, rfl, rfl, SqT.of ha, rfl, rfl, _, rfl, iteN (by decide) ?_⟩
      refine ⟨_, rfl, a, _, _, _, rfl, rfl, SqT.of ha, rfl, rfl, _, rfl, iteS ?_⟩
      exact ⟨_, rfl, _, rfl, k⟩
    | mod m =>
      have hm : (0 : Int) < (m : Int) := by have := ok.1; omega
      refine ⟨_, rfl, a, _, _, _, rfl, rfl, SqT.of ha, rfl, rfl, _, rfl, iteN (by decide) ?_⟩
      refine ⟨_, rfl, a, _, _, _, rfl, rfl, SqT.of ha, rfl, rfl, _, rfl, iteN (by decide) ?_⟩
      refine ⟨_, rfl, a, _, _, _, rfl, rfl, SqT.of ha, rfl, rfl, _, rfl, iteN (by decide) ?_⟩
      exact ⟨_, rfl, _, rfl, a, _, _, _, rfl, rfl, SqT.of ha, rfl, _, _, rfl, rfl, hm, k⟩
/-! ### passes -/
def spPass : Sp := fun vs H Q _ => ∃ (a : Addr) (T : Ts) (n : Int), vs = [.ref a, .int n] ∧ H a = some (.tup T.vs) ∧ T.Ok ∧ Q (.bl (T.pass n)) H
abbrev s_pass : Stmt := top 16
abbrev N_pass : List Str := ["test", "number"]
theorem sc_pass : FnScope N_pass ["test", "number"] (defScope s_pass) := ⟨rfl, rfl, rfl, by decide +kernel, rfl, by decide +kernel, by decide +kernel⟩
theorem kp_pass (F : At K mg "passes" s_pass) : Keeps CX0 P w K mg base "passes" 1 ["test", "number"] spPass := by
  refine keeps_of F sc_pass (fun _ _ _ _ _ _ us hl => match us, hl with | [_, _], _ => rfl) (fun vs H Q E h => ?_) (fun f cdv A outer s H vs Q E hr h => ?_)
  · obtain ⟨a, T, n, rfl, _⟩ := h
    rfl
  · obtain ⟨a, T, n, rfl, ha, ok, k⟩ := h
    refine ⟨_, (pss_cons (ps_if (pt_cmpR op_eq (pe_ix ix_tup (pv 0) pe_int (fun _ _ => rfl)) pe_str (nomark _)) (pss_one (ps_ret (pe_cmpR op_lt (pv 1) (pe_ix ix_tup (pv 0) pe_int (fun _ _ => rfl)) (nomark _)))) pss_nil)
        (pss_cons (ps_if (pt_cmpR op_eq (pe_ix ix_tup (pv 0) pe_int (fun _ _ => rfl)) pe_str (nomark _)) (pss_one (ps_ret (pe_cmpR op_eq (pv 1) (pe_ix ix_tup (pv 0) pe_int (fun _ _ => rfl)) (nomark _)))) pss_nil)
        (pss_one (ps_ret (pe_cmpR op_eq (pe_op op_mod (pv 1) (pe_ix ix_tup (pv 0) pe_int (fun _ _ => rfl))) (pe_ix ix_tup (pv 0) pe_int (fun _ _ => rfl)) (nomark _)))))), ?_⟩
    cases T with
    | below v =>
      refine ⟨_, rfl, a, _, _, _, rfl, rfl, SqT.of ha, rfl, rfl, _, rfl, iteS ?_⟩
      exact ⟨_, rfl, _, rfl, a, _, _, _, rfl, rfl, SqT.of ha, rfl, _, _, rfl, rfl, k⟩
    | is v =>
      refine ⟨_, rfl, a, _, _, _, rfl, rfl, SqT.of ha, rfl, rfl, _, rfl, iteN (by decide) ?_⟩
      refine ⟨_, rfl, a, _, _, _, rfl, rfl, SqT.of ha, rfl, rfl, _, rfl, iteS ?_⟩
      refine ⟨_, rfl, _, rfl, a, _, _, _, rfl, rfl, SqT.of ha, rfl, rfl, ?_⟩
      rw [vint]
      exact k
    | rest m r =>
      have hm : (0 : Int) < (m : Int) := by have := ok.1; omega
      refine ⟨_, rfl, a, _, _, _, rfl, rfl, SqT.of ha, rfl, rfl, _, rfl, iteN (by decide) ?_⟩
      refine ⟨_, rfl, a, _, _, _, rfl, rfl, SqT.of ha, rfl, rfl, _, rfl, iteN (by decide) ?_⟩
      refine ⟨_, rfl, _, rfl, a, _, _, _, rfl, rfl, SqT.of ha, rfl, _, _, rfl, rfl, hm, _, rfl, a, _, _, _, rfl, rfl, SqT.of ha, rfl, rfl, ?_⟩
      rw [vint]
      exact k
/-! ### _law_deed -/
abbrev s_deed : Stmt := top 45
abbrev N_deed : List Str := ["_law_letter_here", "_law_number"]
theorem sc_deed : FnScope N_deed ["_law_letter_here", "_law_number"] (defScope s_deed) := ⟨rfl, rfl, rfl, by decide +kernel, rfl, by decide +kernel, by decide +kernel⟩
theorem kp_deed (F : At K mg "_law_deed" s_deed) : Keeps CX0 P w K mg base "_law_deed" 1 ["_law_letter_here", "_law_number"] spDeed := by
  refine keeps_of F sc_deed (fun _ _ _ _ _ _ us hl => match us, hl with | [_, _], _ => rfl) (fun vs H Q E h => ?_) (fun f cdv A outer s H vs Q E hr h => ?_)
  · obtain ⟨a, L, n, rfl, _⟩ := h
    rfl
  · obtain ⟨a, L, n, rfl, ha, ok, k⟩ := h
    refine ⟨_, (pss_cons (ps_if (pt_cmpR op_eq (pe_ix ix_tup (pv 0) pe_int (fun _ _ => rfl)) pe_str (nomark _)) (pss_one (ps_ret (pe_ix ix_tup (pv 0) pe_int (fun _ _ => rfl)))) pss_nil)
        (pss_cons (ps_if (pt_cmpR op_eq (pe_ix ix_tup (pv 0) pe_int (fun _ _ => rfl)) pe_str (nomark _)) (pss_one (ps_ret (pe_op op_add (pv 1) (pe_ix ix_tup (pv 0) pe_int (fun _ _ => rfl))))) pss_nil)
        (pss_cons (ps_if (pt_cmpR op_eq (pe_ix ix_tup (pv 0) pe_int (fun _ _ => rfl)) pe_str (nomark _)) (pss_one (ps_ret (pe_op op_sub pe_int (pv 1)))) pss_nil)
        (pss_one (ps_ret (pe_op op_sub (pv 1) (pe_op op_mul (pe_ix ix_tup (pv 0) pe_int (fun _ _ => rfl)) (pe_op op_fdiv (pv 1) (pe_ix ix_tup (pv 0) pe_int (fun _ _ => rfl)))))))))), ?_⟩
    cases L with
    | set v =>
      refine ⟨_, rfl, a, _, _, _, rfl, rfl, SqT.of ha, rfl, rfl, _, rfl, iteS ?_⟩
      exact ⟨_, rfl, a, _, _, _, rfl, rfl, SqT.of ha, rfl, k⟩
    | add v =>
      refine ⟨_, rfl, a, _, _, _, rfl, rfl, SqT.of ha, rfl, rfl, _, rfl, iteN (by decide) ?_⟩
      refine ⟨_, rfl, a, _, _, _, rfl, rfl, SqT.of ha, rfl, rfl, _, rfl, iteS ?_⟩
      exact ⟨_, rfl, _, rfl, a, _, _, _, rfl, rfl, SqT.of ha, rfl, _, _, rfl, rfl, k⟩
    | turn =>
      refine ⟨_, rfl, a, _, _, _, rfl, rfl, SqT.of ha, rfl, rfl, _, rfl, iteN (by decide) ?_⟩
      refine ⟨_, rfl, a, _, _, _, rfl, rfl, SqT.of ha, rfl, rfl, _, rfl, iteN (by decide) ?_⟩
      refine ⟨_, rfl, a, _, _, _, rfl, rfl, SqT.of ha, rfl, rfl, _, rfl, iteS ?_⟩
      refine ⟨_, rfl, _, _, rfl, rfl, ?_⟩
      show Q (.int (0 - n)) H
      rw [Int.zero_sub]
      exact k
    | mod m =>
      have hm : (0 : Int) < (m : Int) := by have := ok.1; omega
      have hm2 : (m : Int) ≤ 6 := by have := ok.2; omega
      refine ⟨_, rfl, a, _, _, _, rfl, rfl, SqT.of ha, rfl, rfl, _, rfl, iteN (by decide) ?_⟩
      refine ⟨_, rfl, a, _, _, _, rfl, rfl, SqT.of ha, rfl, rfl, _, rfl, iteN (by decide) ?_⟩
      refine ⟨_, rfl, a, _, _, _, rfl, rfl, SqT.of ha, rfl, rfl, _, rfl, iteN (by decide) ?_⟩
      refine ⟨_, rfl, _, rfl, a, _, _, _, rfl, rfl, SqT.of ha, rfl, _, rfl, _, rfl, a, _, _, _, rfl, rfl, SqT.of ha, rfl, _, _, rfl, rfl, ⟨hm, by omega⟩, _, _, rfl, rfl, .inl ⟨by omega, by omega⟩, _, _, rfl, rfl, ?_⟩
      have e : n - (m : Int) * (n / (m : Int)) = n % (m : Int) := by have := Int.emod_add_mul_ediv n (m : Int); omega
      show Q (.int (n - (m : Int) * (n / (m : Int)))) H
      rw [e]
      exact k
/-! ### _law_passes -/
abbrev s_lps : Stmt := top 46
abbrev N_lps : List Str := ["_law_test_here", "_law_number"]
theorem sc_lps : FnScope N_lps ["_law_test_here", "_law_number"] (defScope s_lps) := ⟨rfl, rfl, rfl, by decide +kernel, rfl, by decide +kernel, by decide +kernel⟩
theorem rest_iff0 {m : Nat} {r n : Int} (h0 : 0 ≤ r) (h1 : r < m) : (n - r) % (m : Int) = 0 ↔ n % (m : Int) = r := by
  constructor
  · intro h
    have e : n = (n - r) + r := by omega
    rw [e, Int.add_emod, h, Int.zero_add, Int.emod_emod, Int.emod_eq_of_lt h0 h1]
  · intro h
    rw [Int.sub_emod, h, Int.emod_eq_of_lt h0 h1, Int.sub_self, Int.zero_emod]
theorem kp_lps (F : At K mg "_law_passes" s_lps) (N : Nb mg) : Keeps CX0 P w K mg base "_law_passes" 1 ["_law_test_here", "_law_number"] spPass := by
  refine keeps_of F sc_lps (fun _ _ _ _ _ _ us hl => match us, hl with | [_, _], _ => rfl) (fun vs H Q E h => ?_) (fun f cdv A outer s H vs Q E hr h => ?_)
  · obtain ⟨a, T, n, rfl, _⟩ := h
    rfl
  · obtain ⟨a, T, n, rfl, ha, ok, k⟩ := h
    refine ⟨_, (pss_cons (ps_if (pt_cmpR op_eq (pe_ix ix_tup (pv 0) pe_int (fun _ _ => rfl)) pe_str (nomark _)) (pss_one (ps_ret (pe_cmpR op_lt (pv 1) (pe_ix ix_tup (pv 0) pe_int (fun _ _ => rfl)) (nomark _)))) pss_nil)
        (pss_cons (ps_if (pt_cmpR op_eq (pe_ix ix_tup (pv 0) pe_int (fun _ _ => rfl)) pe_str (nomark _)) (pss_one (ps_ret (pe_cmpR op_eq (pv 1) (pe_ix ix_tup (pv 0) pe_int (fun _ _ => rfl)) (nomark _)))) pss_nil)
        (pss_one (ps_ret (pe_cmpR op_eq (pe_op op_mod (pe_callTy call_int1 (by rfl) N.int boot_int (pa_cons (pe_op op_sub (pv 1) (pe_ix ix_tup (pv 0) pe_int (fun _ _ => rfl))) pa_nil)) (pe_ix ix_tup (pv 0) pe_int (fun _ _ => rfl))) pe_int (nomark _)))))), ?_⟩
    cases T with
    | below v =>
      refine ⟨_, rfl, a, _, _, _, rfl, rfl, SqT.of ha, rfl, rfl, _, rfl, iteS ?_⟩
      exact ⟨_, rfl, _, rfl, a, _, _, _, rfl, rfl, SqT.of ha, rfl, _, _, rfl, rfl, k⟩
    | is v =>
      refine ⟨_, rfl, a, _, _, _, rfl, rfl, SqT.of ha, rfl, rfl, _, rfl, iteN (by decide) ?_⟩
      refine ⟨_, rfl, a, _, _, _, rfl, rfl, SqT.of ha, rfl, rfl, _, rfl, iteS ?_⟩
      refine ⟨_, rfl, _, rfl, a, _, _, _, rfl, rfl, SqT.of ha, rfl, rfl, ?_⟩
      rw [vint]
      exact k
    | rest m r =>
      have hm : (0 : Int) < (m : Int) := by have := ok.1; omega
      refine ⟨_, rfl, a, _, _, _, rfl, rfl, SqT.of ha, rfl, rfl, _, rfl, iteN (by decide) ?_⟩
      refine ⟨_, rfl, a, _, _, _, rfl, rfl, SqT.of ha, rfl, rfl, _, rfl, iteN (by decide) ?_⟩
      refine ⟨_, rfl, _, rfl, a, _, _, _, rfl, rfl, SqT.of ha, rfl, _, _, rfl, rfl, .inl ⟨_, rfl, _, rfl, a, _, _, _, rfl, rfl, SqT.of ha, rfl, _, _, rfl, rfl, hm, rfl, ?_⟩⟩
      rw [vint, dec_cong (rest_iff0 ok.2.1 ok.2.2)]
      exact k
end
end My
set_option Elab.async false
set_option linter.all false
set_option maxRecDepth 100000
set_option maxHeartbeats 8000000
namespace My
open PySem PySem.Spec PyProof.Rows L2
local macro_rules | `(tactic| walk_at "lv") => `(tactic| first | exact Or.inl rfl | exact Or.inr rfl)
theorem HandC.nt {H : Hp} {p c u : Addr} {xs : List V} (h : HandC H p c) (e : H u = some (.tup xs)) : u ≠ p := fun z => by
  obtain ⟨_, _, _, _, hp, _⟩ := h
  rw [z, hp] at e
  cases e
theorem HandC.ni {H : Hp} {p c u : Addr} {xs : List Int} (h : HandC H p c) (e : H u = some (.lst (xs.map V.int))) : u ≠ p := fun z => by
  obtain ⟨_, _, _, _, hp, _⟩ := h
  rw [z, hp] at e
  cases xs with
  | nil => cases e
  | cons y ys => cases e
theorem But.mono_ne {p : Addr} {H H' : Hp} {b : Addr} {o : HO} (k : But p H H') (h : b ≠ p) (e : H b = some o) : H' b = some o := k b o h e
section
variable {P : Program} {w : World} {K : PySem.W.Frag} {mg : Str → Option Value} {base : Heap}
/-! ### _law_pick -/
def spPick : Sp := fun vs H Q _ => ∃ (p c t : Addr) (xs : List V), vs = [.ref p, .ref t] ∧ HandC H p c ∧ H t = some (.lst xs) ∧ t ≠ p ∧ (0 < xs.length ∧ xs.length ≤ 100) ∧ ∀ (i : Nat) (v : V) H', xs[i]? = some v → HandC H' p c → But p H H' → Q v H'
abbrev s_pick : Stmt := top 40
abbrev N_pick : List Str := ["_law_hand_here", "_law_things"]
theorem sc_pick : FnScope N_pick ["_law_hand_here", "_law_things"] (defScope s_pick) := ⟨rfl, rfl, rfl, by decide +kernel, rfl, by decide +kernel, by decide +kernel⟩
theorem log_le {n : Nat} (h : n ≤ 60000) : ((n : Int)).natAbs.log2 < 9000 := log_small h
theorem kp_pick (F : At K mg "_law_pick" s_pick) (N : Nb mg) (G : Keeps CX0 P w K mg base "_law_draw" 2 ["_law_hand_here", "_law_many"] spDraw) : Keeps CX0 P w K mg base "_law_pick" 3 ["_law_hand_here", "_law_things"] spPick := by
  refine keeps_of F sc_pick (fun _ _ _ _ _ _ us hl => match us, hl with | [_, _], _ => rfl) (fun vs H Q E h => ?_) (fun f cdv A outer s H vs Q E hr h => ?_)
  · obtain ⟨p, c, t, xs, rfl, _⟩ := h
    rfl
  · obtain ⟨p, c, t, xs, rfl, hh, ht, tp, ⟨l0, l1⟩, k⟩ := h
    refine ⟨_, (pss_one (ps_ret (pe_ix ix_list (pv 1) (pe_k G hr (by rfl) pass0 (pa_cons (pv 0) (pa_cons (pe_callB call_len_seq (by rfl) N.len (by decide +kernel) (pa_cons (pv 1) pa_nil)) pa_nil))) (fun _ _ => rfl)))), ?_⟩
    refine ⟨_, rfl, _, rfl, _, rfl, t, _, rfl, .inl (SqL.of ht), p, c, _, rfl, hh, ⟨by omega, log_small (by omega)⟩, fun r H1 r0 r1 h1 b1 => ?_⟩
    obtain ⟨v, e1, e2⟩ := atI_of (xs := xs) r0 r1
    exact ⟨t, _, _, _, rfl, rfl, SqL.of (b1 _ _ tp ht), e2, k _ _ _ e1 h1 b1⟩
/-! ### _law_value -/
def spVal : Sp := fun vs H Q _ => ∃ (p c : Addr), vs = [.ref p] ∧ HandC H p c ∧ ∀ (v : Int) H', -20 ≤ v → v ≤ 20 → HandC H' p c → But p H H' → Q (.int v) H'
abbrev s_val : Stmt := top 42
abbrev N_val : List Str := ["_law_hand_here"]
theorem sc_val : FnScope N_val ["_law_hand_here"] (defScope s_val) := ⟨rfl, rfl, rfl, by decide +kernel, rfl, by decide +kernel, by decide +kernel⟩
theorem kp_val (F : At K mg "_law_value" s_val) (G : Keeps CX0 P w K mg base "_law_draw" 2 ["_law_hand_here", "_law_many"] spDraw) : Keeps CX0 P w K mg base "_law_value" 3 ["_law_hand_here"] spVal := by
  refine keeps_of F sc_val (fun _ _ _ _ _ _ us hl => match us, hl with | [_], _ => rfl) (fun vs H Q E h => ?_) (fun f cdv A outer s H vs Q E hr h => ?_)
  · obtain ⟨p, c, rfl, _⟩ := h
    rfl
  · obtain ⟨p, c, rfl, hh, k⟩ := h
    refine ⟨_, (pss_cons (ps_if (pt_cmpR op_eq (pe_k G hr (by rfl) pass0 (pa_cons (pv 0) (pa_cons pe_int pa_nil))) pe_int (nomark _)) (pss_one (ps_ret (pe_op op_sub (pe_k G hr (by rfl) pass0 (pa_cons (pv 0) (pa_cons pe_int pa_nil))) pe_int))) pss_nil)
        (pss_one (ps_ret (pe_op op_sub (pe_k G hr (by rfl) pass0 (pa_cons (pv 0) (pa_cons pe_int pa_nil))) pe_int)))), ?_⟩
    refine ⟨_, rfl, p, c, 8, rfl, hh, ⟨by decide, by decide⟩, fun r H1 r0 r1 h1 b1 => ⟨rfl, _, rfl, ite2 (fun _ => ?_) (fun _ => ?_)⟩⟩
    · refine ⟨_, rfl, p, c, 41, rfl, h1, ⟨by decide, by decide⟩, fun r' H2 r0' r1' h2 b2 => ⟨_, _, rfl, rfl, k _ _ (by omega) (by omega) h2 (b1.trans b2)⟩⟩
    · refine ⟨_, rfl, p, c, 7, rfl, h1, ⟨by decide, by decide⟩, fun r' H2 r0' r1' h2 b2 => ⟨_, _, rfl, rfl, k _ _ (by omega) (by omega) h2 (b1.trans b2)⟩⟩
/-! ### _law_letter, _law_test -/
/-- a list of moduli -/
def ModL (H : Hp) (t : Addr) (xs : List V) : Prop := H t = some (.lst xs) ∧ (0 < xs.length ∧ xs.length ≤ 100) ∧ ∀ (i : Nat) (v : V), xs[i]? = some v → ∃ m : Nat, v = .int m ∧ 1 ≤ m ∧ m ≤ 6
def spLet : Sp := fun vs H Q _ => ∃ (p c t : Addr) (m : Int) (xs : List V), vs = [.ref p, .int m, .ref t] ∧ HandC H p c ∧ ModL H t xs ∧ t ≠ p ∧ (0 ≤ m ∧ m ≤ 20) ∧ ∀ a (L : Lt) H', L.Ok → H' a = some (.tup L.vs) → HandC H' p c → But p H H' → Q (.ref a) H'
abbrev s_let : Stmt := top 43
abbrev N_let : List Str := ["_law_hand_here", "_law_most", "_law_moduli", "_law_kind"]
theorem sc_let : FnScope N_let ["_law_hand_here", "_law_most", "_law_moduli"] (defScope s_let) := ⟨rfl, rfl, rfl, by decide +kernel, rfl, by decide +kernel, by decide +kernel⟩
theorem new_tup {p c a : Addr} {H H1 : Hp} {xs : List V} (h : HandC H1 p c) (b : But p H H1) (ha : H1 a = none) : upd H1 a (.tup xs) a = some (.tup xs) ∧ HandC (upd H1 a (.tup xs)) p c ∧ But p H (upd H1 a (.tup xs)) := by
  have s := same_new (o := .tup xs) (Same.refl H1) ha
  exact ⟨upd_same, h.same s, b.trans (But.of s)⟩
theorem kp_let (F : At K mg "_law_letter" s_let) (G : Keeps CX0 P w K mg base "_law_draw" 2 ["_law_hand_here", "_law_many"] spDraw) (Gp : Keeps CX0 P w K mg base "_law_pick" 3 ["_law_hand_here", "_law_things"] spPick) (Gv : Keeps CX0 P w K mg base "_law_value" 3 ["_law_hand_here"] spVal) :
    Keeps CX0 P w K mg base "_law_letter" 4 ["_law_hand_here", "_law_most", "_law_moduli"] spLet := by
  refine keeps_of F sc_let (fun _ _ _ _ _ _ us hl => match us, hl with | [_, _, _], _ => rfl) (fun vs H Q E h => ?_) (fun f cdv A outer s H vs Q E hr h => ?_)
  · obtain ⟨p, c, t, m, xs, rfl, _⟩ := h
    rfl
  · obtain ⟨p, c, t, m, xs, rfl, hh, ⟨ht, hl, hm⟩, tp, mb, k⟩ := h
    have h2 : Room 2 (A.deeper (envOfC "_law_letter" (defScope s_let) s.heap.objs.size f cdv)) := hr.mono (by decide)
    refine ⟨_, (pss_cons (ps_set (i := 3) sc_let.nd rfl (by walk_at "lv") (pe_k G h2 (by rfl) pass0 (pa_cons (pv 0) (pa_cons pe_int pa_nil))))
        (pss_cons (ps_if (pt_cmpR op_lt (pv 3) pe_int (nomark _)) (pss_one (ps_ret (pe_tup (pa_cons pe_str (pa_cons (pe_op op_sub (pe_k G h2 (by rfl) pass0 (pa_cons (pv 0) (pa_cons (pe_op op_add (pe_op op_mul pe_int (pv 1)) pe_int) pa_nil))) (pv 1)) pa_nil))))) pss_nil)
        (pss_cons (ps_if (pt_cmpR op_eq (pv 3) pe_int (nomark _)) (pss_one (ps_ret (pe_tup (pa_cons pe_str (pa_cons (pe_k Gv hr (by rfl) pass0 (pa_cons (pv 0) pa_nil)) pa_nil))))) pss_nil)
        (pss_cons (ps_if (pt_cmpR op_eq (pv 3) pe_int (nomark _)) (pss_one (ps_ret (pe_tup (pa_cons pe_str pa_nil)))) pss_nil)
        (pss_cons (ps_if (pt_cmpR op_eq (pv 3) pe_int (nomark _)) (pss_one (ps_ret (pe_tup (pa_cons pe_str (pa_cons (pe_k Gp hr (by rfl) pass0 (pa_cons (pv 0) (pa_cons (pv 2) pa_nil))) pa_nil))))) pss_nil)
        (pss_one (ps_ret (pe_tup (pa_cons pe_str (pa_cons (pv 1) pa_nil)))))))))), ?_⟩
    refine ⟨_, rfl, p, c, 8, rfl, hh, ⟨by decide, by decide⟩, fun r H1 r0 r1 h1 b1 => ?_⟩
    refine ⟨_, rfl, _, _, rfl, rfl, _, rfl, ite2 (fun _ => ?_) (fun _ => ?_)⟩
    · refine ⟨_, rfl, _, rfl, _, _, rfl, rfl, .inl ⟨by decide, by decide⟩, _, _, rfl, rfl, p, c, _, rfl, h1, ⟨by omega, ?_⟩, fun r' H2 r0' r1' h2 b2 => ⟨_, rfl, _, _, rfl, rfl, (by show 2 ≤ sizeLine; decide), fun a ha => ?_⟩⟩
      · have e : (2 * m + 1 : Int) = ((2 * m + 1).toNat : Int) := by omega
        rw [e]
        exact log_small (by omega)
      · obtain ⟨q1, q2, q3⟩ := new_tup (xs := [V.str "add", V.int (r' - m)]) h2 (b1.trans b2) ha
        exact k a (.add (r' - m)) _ ⟨by omega, by omega⟩ q1 q2 q3
    refine ⟨_, rfl, rfl, _, rfl, ite2 (fun _ => ?_) (fun _ => ?_)⟩
    · refine ⟨_, rfl, p, c, rfl, h1, fun v H2 v0 v1 h2 b2 => ⟨(by show 2 ≤ sizeLine; decide), fun a ha => ?_⟩⟩
      obtain ⟨q1, q2, q3⟩ := new_tup (xs := [V.str "set", V.int v]) h2 (b1.trans b2) ha
      exact k a (.set v) _ ⟨v0, v1⟩ q1 q2 q3
    refine ⟨_, rfl, rfl, _, rfl, ite2 (fun _ => ?_) (fun _ => ?_)⟩
    · refine ⟨(by show 1 ≤ sizeLine; decide), fun a ha => ?_⟩
      obtain ⟨q1, q2, q3⟩ := new_tup (xs := [V.str "turn"]) h1 b1 ha
      exact k a .turn _ trivial q1 q2 q3
    refine ⟨_, rfl, rfl, _, rfl, ite2 (fun _ => ?_) (fun _ => ?_)⟩
    · refine ⟨_, rfl, _, rfl, p, c, t, xs, rfl, h1, b1 _ _ tp ht, tp, hl, fun i v H2 hv h2 b2 => ?_⟩
      obtain ⟨n, rfl, n1, n6⟩ := hm i v hv
      refine ⟨(by show 2 ≤ sizeLine; decide), fun a ha => ?_⟩
      obtain ⟨q1, q2, q3⟩ := new_tup (xs := [V.str "mod", V.int n]) h2 (b1.trans b2) ha
      exact k a (.mod n) _ ⟨n1, n6⟩ q1 q2 q3
    refine ⟨_, rfl, (by show 2 ≤ sizeLine; decide), fun a ha => ?_⟩
    obtain ⟨q1, q2, q3⟩ := new_tup (xs := [V.str "add", V.int m]) h1 b1 ha
    exact k a (.add m) _ ⟨by omega, by omega⟩ q1 q2 q3
def spTes : Sp := fun vs H Q _ => ∃ (p c t : Addr) (xs : List V), vs = [.ref p, .ref t] ∧ HandC H p c ∧ ModL H t xs ∧ t ≠ p ∧ ∀ a (T : Ts) H', T.Ok → H' a = some (.tup T.vs) → HandC H' p c → But p H H' → Q (.ref a) H'
abbrev s_tes : Stmt := top 44
abbrev N_tes : List Str := ["_law_hand_here", "_law_moduli", "_law_kind", "_law_m"]
theorem sc_tes : FnScope N_tes ["_law_hand_here", "_law_moduli"] (defScope s_tes) := ⟨rfl, rfl, rfl, by decide +kernel, rfl, by decide +kernel, by decide +kernel⟩
theorem kp_tes (F : At K mg "_law_test" s_tes) (G : Keeps CX0 P w K mg base "_law_draw" 2 ["_law_hand_here", "_law_many"] spDraw) (Gp : Keeps CX0 P w K mg base "_law_pick" 3 ["_law_hand_here", "_law_things"] spPick) (Gv : Keeps CX0 P w K mg base "_law_value" 3 ["_law_hand_here"] spVal) :
    Keeps CX0 P w K mg base "_law_test" 4 ["_law_hand_here", "_law_moduli"] spTes := by
  refine keeps_of F sc_tes (fun _ _ _ _ _ _ us hl => match us, hl with | [_, _], _ => rfl) (fun vs H Q E h => ?_) (fun f cdv A outer s H vs Q E hr h => ?_)
  · obtain ⟨p, c, t, xs, rfl, _⟩ := h
    rfl
  · obtain ⟨p, c, t, xs, rfl, hh, ⟨ht, hl, hm⟩, tp, k⟩ := h
    have h2 : Room 2 (A.deeper (envOfC "_law_test" (defScope s_tes) s.heap.objs.size f cdv)) := hr.mono (by decide)
    refine ⟨_, (pss_cons (ps_set (i := 2) sc_tes.nd rfl (by walk_at "lv") (pe_k G h2 (by rfl) pass0 (pa_cons (pv 0) (pa_cons pe_int pa_nil))))
        (pss_cons (ps_if (pt_cmpR op_eq (pv 2) pe_int (nomark _)) (pss_one (ps_ret (pe_tup (pa_cons pe_str (pa_cons (pe_k Gv hr (by rfl) pass0 (pa_cons (pv 0) pa_nil)) pa_nil))))) pss_nil)
        (pss_cons (ps_if (pt_cmpR op_eq (pv 2) pe_int (nomark _)) (pss_one (ps_ret (pe_tup (pa_cons pe_str (pa_cons (pe_k Gv hr (by rfl) pass0 (pa_cons (pv 0) pa_nil)) pa_nil))))) pss_nil)
        (pss_cons (ps_set (i := 3) sc_tes.nd rfl (by walk_at "lv") (pe_k Gp hr (by rfl) pass0 (pa_cons (pv 0) (pa_cons (pv 1) pa_nil))))
        (pss_one (ps_ret (pe_tup (pa_cons pe_str (pa_cons (pv 3) (pa_cons (pe_k G h2 (by rfl) pass0 (pa_cons (pv 0) (pa_cons (pv 3) pa_nil))) pa_nil)))))))))), ?_⟩
    refine ⟨_, rfl, p, c, 4, rfl, hh, ⟨by decide, by decide⟩, fun r H1 r0 r1 h1 b1 => ?_⟩
    refine ⟨_, rfl, rfl, _, rfl, ite2 (fun _ => ?_) (fun _ => ?_)⟩
    · refine ⟨_, rfl, p, c, rfl, h1, fun v H2 v0 v1 h2 b2 => ⟨(by show 2 ≤ sizeLine; decide), fun a ha => ?_⟩⟩
      obtain ⟨q1, q2, q3⟩ := new_tup (xs := [V.str "below", V.int v]) h2 (b1.trans b2) ha
      exact k a (.below v) _ ⟨v0, v1⟩ q1 q2 q3
    refine ⟨_, rfl, rfl, _, rfl, ite2 (fun _ => ?_) (fun _ => ?_)⟩
    · refine ⟨_, rfl, p, c, rfl, h1, fun v H2 v0 v1 h2 b2 => ⟨(by show 2 ≤ sizeLine; decide), fun a ha => ?_⟩⟩
      obtain ⟨q1, q2, q3⟩ := new_tup (xs := [V.str "is", V.int v]) h2 (b1.trans b2) ha
      exact k a (.is v) _ ⟨v0, v1⟩ q1 q2 q3
    refine ⟨_, rfl, _, rfl, p, c, t, xs, rfl, h1, b1 _ _ tp ht, tp, hl, fun i v H2 hv h2 b2 => ?_⟩
    obtain ⟨n, rfl, n1, n6⟩ := hm i v hv
    refine ⟨_, rfl, _, rfl, _, rfl, p, c, _, rfl, h2, ⟨by omega, log_small (by omega)⟩, fun r' H3 r0' r1' h3 b3 => ⟨(by show 3 ≤ sizeLine; decide), fun a ha => ?_⟩⟩
    obtain ⟨q1, q2, q3⟩ := new_tup (xs := [V.str "rest", V.int n, V.int r']) h3 ((b1.trans b2).trans b3) ha
    exact k a (.rest n r') _ ⟨⟨n1, n6⟩, r0', r1'⟩ q1 q2 q3
end
end My
set_option Elab.async false
set_option linter.all false
set_option maxRecDepth 100000
set_option maxHeartbeats 8000000
namespace My
open PySem PySem.Spec PyProof.Rows L2
local macro_rules | `(tactic| walk_at "lv") => `(tactic| first | exact Or.inl rfl | exact Or.inr rfl)
theorem hand_ne {p c D : Addr} {H2 : Hp} (h : HandC H2 p c) (hD : H2 D = none) : D ≠ p := fun z => by
  obtain ⟨_, _, _, _, hp, _⟩ := h
  rw [← z, hD] at hp
  cases hp
section
variable {P : Program} {w : World} {K : PySem.W.Frag} {mg : Str → Option Value} {base : Heap}
/-! ### _law_six -/
theorem int_nat {a : Int} (h : 0 ≤ a) : ∃ n : Nat, a = n := ⟨a.toNat, by omega⟩
theorem log_int {a : Int} (h0 : 0 ≤ a) (h1 : a ≤ 60000) : a.natAbs.log2 < 9000 := by
  obtain ⟨n, rfl⟩ := int_nat h0
  exact log_small (by omega)
end
end My
set_option Elab.async false
set_option linter.all false
set_option maxRecDepth 100000
set_option maxHeartbeats 8000000
namespace My
open PySem PySem.Spec PyProof.Rows L2
local macro_rules | `(tactic| walk_at "lv") => `(tactic| first | exact Or.inl rfl | exact Or.inr rfl)
/-! ### things of any kind -/
/-- what stands in a thing -/
inductive El (K : PySem.W.Frag) (H : Hp) : V → PyData → Prop
  | non : El K H .non .none
  | bl (b : Bool) : El K H (.bl b) (.bool b)
  | int (n : Int) : El K H (.int n) (.int n)
  | str (x : Str) (sh : SeqAt.shaped (.str x) = true) : El K H (.str x) (.str x)
  | lst {a : Addr} {xs : List V} {ds : List PyData} : H a = some (.lst xs) → DpAll K H xs ds → SeqAt.shaped (.list ds) = true → El K H (.ref a) (.list ds)
def wD (lo hi : Int) : V → Bool
  | .int n => decide (lo ≤ n) && decide (n ≤ hi)
  | _ => false
def isW (x : V) (z : Str) : Bool := match x with
  | .str y => decide (y = z)
  | _ => false
/-- does a row say a letter, a test -/
def fitsL : List V → Bool
  | [] => false
  | x :: r => if isW x "turn" then r.isEmpty else match r with
    | [y] => if isW x "mod" then wD 1 6 y else (isW x "set" || isW x "add") && wD (-20) 20 y
    | _ => false
def intOf : V → Int
  | .int n => n
  | _ => 0
def fitsT : List V → Bool
  | [] => false
  | x :: r => if isW x "rest" then (match r with
    | [y, z] => wD 1 6 y && wD 0 (intOf y - 1) z
    | _ => false) else match r with
    | [y] => (isW x "below" || isW x "is") && wD (-20) 20 y
    | _ => false
theorem El.same {K : PySem.W.Frag} {H H' : Hp} {x : V} {d : PyData} (s : Same H H') (h : El K H x d) (hf : ∀ a xs, x = .ref a → H a = some (.lst xs) → ∀ y ∈ xs, (∃ n, y = .int n) ∨ ∃ z, y = .str z) : El K H' x d := by
  cases h with
  | non => exact .non
  | bl b => exact .bl b
  | int n => exact .int n
  | str z sh => exact .str z sh
  | lst e ha sh =>
    refine .lst (s _ _ e) ?_ sh
    have q := hf _ _ rfl e
    clear hf sh e
    rename_i a xs ds
    induction xs generalizing ds with
    | nil => cases ha; exact .nil
    | cons y ys ih =>
      cases ha with
      | cons h1 h2 =>
        refine .cons ?_ (ih h2 fun z hz => q z (List.mem_cons_of_mem _ hz))
        rcases q y List.mem_cons_self with ⟨n, rfl⟩ | ⟨z, rfl⟩
        · cases h1; exact .int n
        · cases h1; exact .str z
theorem El.shaped {K : PySem.W.Frag} {H : Hp} {x : V} {d : PyData} (h : El K H x d) : SeqAt.shaped d = true := by
  cases h with
  | lst _ _ sh => exact sh
  | str _ sh => exact sh
  | _ => rfl
theorem El.dp {K : PySem.W.Frag} {H : Hp} {x : V} {d : PyData} (h : El K H x d) : Dp K H x d := by
  cases h with
  | non => exact .non
  | bl b => exact .bl b
  | int n => exact .int n
  | str z => exact .str z
  | lst e ha _ => exact .lst (SqL.of e) ha
theorem El.eqW {K : PySem.W.Frag} {H : Hp} {x : V} {d : PyData} (h : El K H x d) (z : Str) : PyData.eqv d (.str z) = isW x z := by
  cases h with
  | str y => show (y == z) = decide (y = z); by_cases e : y = z <;> simp [e]
  | _ => rfl
/-- an item of a list or a tuple -/
def rIxA (K : PySem.W.Frag) : R2 := fun x y H Q => rIxL K x y H Q ∨ rIxT K x y H Q
theorem ix_any {X : L2.Cx} : IxR X (rIxA X.K) := by
  intro a b pins s σ H x y v u Q I rx ry h hp
  rcases h with h | h
  · exact ix_list a b pins s σ H x y v u Q I rx ry h hp
  · exact ix_tup a b pins s σ H x y v u Q I rx ry h hp
theorem ixA_of {K : PySem.W.Frag} {H : Hp} {a : Addr} {xs : List V} {i : Int} {v : V} {Q : VK} (h : SqA H a xs) (e : atI xs i = some v) (k : Q v H) : rIxA K (.ref a) (.int i) H Q := by
  rcases h with h | h
  · exact .inl ⟨a, xs, i, v, rfl, rfl, SqL.of h, e, k⟩
  · exact .inr ⟨a, xs, i, v, rfl, rfl, SqT.of h, e, k⟩
theorem truA {K : PySem.W.Frag} {H : Hp} {a : Addr} {xs : List V} (h : SqA H a xs) : TruV K (.ref a) H (!xs.isEmpty) := by
  rcases h with h | h
  · exact .inl ⟨xs, SqL.of h, rfl⟩
  · exact .inr (.inl ⟨xs, SqT.of h, rfl⟩)
theorem lenA {K : PySem.W.Frag} {H : Hp} {a : Addr} {xs : List V} (h : SqA H a xs) : SqL K H a xs ∨ SqT K H a xs := by
  rcases h with h | h
  · exact .inl (SqL.of h)
  · exact .inr (SqT.of h)
section
variable {P : Program} {w : World} {K : PySem.W.Frag} {mg : Str → Option Value} {base : Heap}
/-! ### is_whole of any thing -/
def spWhD (K : PySem.W.Frag) : Sp := fun vs H Q _ => ∃ (x : V) (d : PyData), vs = [x] ∧ El K H x d ∧ Q (.bl (match x with | .int _ => true | _ => false)) H
theorem kp_whD (F : At K mg "is_whole" s_whole) (N : Nb mg) : Keeps CX0 P w K mg base "is_whole" 1 ["thing"] (spWhD K) := by
  refine keeps_of F sc_whole (fun _ _ _ _ _ _ us hl => match us, hl with | [_], _ => rfl) (fun vs H Q E h => ?_) (fun f cdv A outer s H vs Q E hr h => ?_)
  · obtain ⟨x, d, rfl, _⟩ := h
    rfl
  · obtain ⟨x, d, rfl, hx, k⟩ := h
    refine ⟨_, (pss_one (ps_ret (pe_and (pe_callB call_isi (by rfl) N.isinstance boot_isinstance (pa_cons (pv 0) (pa_cons (pe_bltn (v := .ty "int") (by rfl) N.int (by decide +kernel) rfl) pa_nil))) (pe_one (pe_not (pe_callB call_isi (by rfl) N.isinstance boot_isinstance (pa_cons (pv 0) (pa_cons (pe_bltn (v := .ty "bool") (by rfl) N.bool (by decide +kernel) rfl) pa_nil)))))))), ?_⟩
    cases hx with
    | int a =>
      refine ⟨_, rfl, .int a, .ty "int", _, _, true, rfl, .ty "int", .base (.int a), kit_ty (by decide +kernel), _, rfl, ?_⟩
      exact ⟨_, rfl, .int a, .ty "bool", _, _, false, rfl, .ty "bool", .base (.int a), kit_ty (by decide +kernel), _, rfl, k⟩
    | bl b =>
      refine ⟨_, rfl, .bl b, .ty "int", _, _, true, rfl, .ty "int", .base (.bl b), kit_ty (by decide +kernel), _, rfl, ?_⟩
      exact ⟨_, rfl, .bl b, .ty "bool", _, _, true, rfl, .ty "bool", .base (.bl b), kit_ty (by decide +kernel), _, rfl, k⟩
    | non => exact ⟨_, rfl, .non, .ty "int", _, _, false, rfl, .ty "int", .base .non, kit_ty (by decide +kernel), _, rfl, k⟩
    | str z => exact ⟨_, rfl, .str z, .ty "int", _, _, false, rfl, .ty "int", .base (.str z), kit_ty (by decide +kernel), _, rfl, k⟩
    | lst e _ _ => exact ⟨_, rfl, _, .ty "int", _, _, false, rfl, .ty "int", .base (.lst e), kit_ty (by decide +kernel), _, rfl, k⟩
def spWfD (K : PySem.W.Frag) : Sp := fun vs H Q _ => ∃ (x : V) (d : PyData) (lo hi : Int), vs = [x, .int lo, .int hi] ∧ El K H x d ∧ Q (.bl (wD lo hi x)) H
theorem kp_wfD (F : At K mg "is_whole_from" s_wholeF) (G : Keeps CX0 P w K mg base "is_whole" 1 ["thing"] (spWhD K)) : Keeps CX0 P w K mg base "is_whole_from" 2 ["thing", "low", "high"] (spWfD K) := by
  refine keeps_of F sc_wholeF (fun _ _ _ _ _ _ us hl => match us, hl with | [_, _, _], _ => rfl) (fun vs H Q E h => ?_) (fun f cdv A outer s H vs Q E hr h => ?_)
  · obtain ⟨x, d, lo, hi, rfl, _⟩ := h
    rfl
  · obtain ⟨x, d, lo, hi, rfl, hx, k⟩ := h
    refine ⟨_, (pss_one (ps_ret (pe_and (pe_k G hr (by rfl) pass0 (pa_cons (pv 0) pa_nil)) (pe_one (pe_chain op_le op_le (pv 1) (pv 0) (pv 2)))))), ?_⟩
    refine ⟨_, rfl, x, d, rfl, hx, _, rfl, ?_⟩
    cases hx with
    | int a =>
      refine ⟨_, rfl, _, rfl, _, _, rfl, rfl, _, rfl, ?_⟩
      have k : Q (.bl (decide (lo ≤ a) && decide (a ≤ hi))) H := k
      by_cases h1 : lo ≤ a
      · rw [decide_eq_true h1] at k ⊢
        exact ⟨_, rfl, _, _, rfl, rfl, k⟩
      · rw [decide_eq_false h1] at k ⊢
        exact k
    | bl b => exact k
    | non => exact k
    | str z => exact k
    | lst e _ _ => exact k
/-! ### is_sequence of any thing -/
/-- a thing that is no list and no tuple -/
def Flat (x : V) : Prop := x = .non ∨ (∃ n, x = .int n) ∨ ∃ z, x = .str z
def spSeqD : Sp := fun vs H Q _ => (∃ a xs, vs = [.ref a] ∧ SqA H a xs ∧ ∀ H', Same H H' → Q (.bl true) H') ∨ ∃ x, vs = [x] ∧ Flat x ∧ ∀ H', Same H H' → Q (.bl false) H'
theorem kp_seqD (F : At K mg "is_sequence" s_seq) (N : Nb mg) : Keeps CX0 P w K mg base "is_sequence" 1 ["thing"] spSeqD := by
  refine keeps_of F sc_seq (fun _ _ _ _ _ _ us hl => match us, hl with | [_], _ => rfl) (fun vs H Q E h => ?_) (fun f cdv A outer s H vs Q E hr h => ?_)
  · rcases h with ⟨a, xs, rfl, _⟩ | ⟨x, rfl, _⟩ <;> rfl
  · obtain ⟨v, rfl⟩ : ∃ v, vs = [v] := by
      rcases h with ⟨a, xs, rfl, _⟩ | ⟨x, rfl, _⟩
      · exact ⟨_, rfl⟩
      · exact ⟨_, rfl⟩
    refine ⟨_, (pss_one (ps_ret (pe_callB call_isiT (by rfl) N.isinstance boot_isinstance (pa_cons (pv 0) (pa_cons (pe_tup (pa_cons (pe_bltn (v := .ty "list") (by rfl) N.list (by decide +kernel) rfl) (pa_cons (pe_bltn (v := .ty "tuple") (by rfl) N.tuple (by decide +kernel) rfl) pa_nil))) pa_nil))))), ?_⟩
    refine ⟨_, rfl, ⟨(by show 2 ≤ sizeLine; decide), fun t ht => ?_⟩⟩
    have s1 := same_new (o := .tup [V.ty "list", V.ty "tuple"]) (Same.refl H) ht
    rcases h with ⟨a, xs, ev, hs, k⟩ | ⟨x, ev, hx, k⟩
    · cases ev
      rcases hs with hs | hs
      · exact ⟨.ref a, t, [.ty "list", .ty "tuple"], _, _, true, rfl, upd_same, .cons (.ty _) (.cons (.ty _) .nil), .base (.lst (s1 _ _ hs)), kitAny_cons (b := true) (kit_ty (by decide +kernel)) (fun z => nomatch z) (fun _ => rfl), k _ s1⟩
      · exact ⟨.ref a, t, [.ty "list", .ty "tuple"], _, _, true, rfl, upd_same, .cons (.ty _) (.cons (.ty _) .nil), .base (.tup (s1 _ _ hs)), kitAny_cons (b := false) (kit_ty (by decide +kernel)) (fun _ => kitAny_cons (b := true) (kit_ty (by decide +kernel)) (fun z => nomatch z) (fun _ => rfl)) (fun z => nomatch z), k _ s1⟩
    · cases ev
      rcases hx with rfl | ⟨n, rfl⟩ | ⟨z, rfl⟩
      · exact ⟨_, t, [.ty "list", .ty "tuple"], _, _, false, rfl, upd_same, .cons (.ty _) (.cons (.ty _) .nil), .base .non, kitAny_cons (b := false) (kit_ty (by decide +kernel)) (fun _ => kitAny_cons (b := false) (kit_ty (by decide +kernel)) (fun _ => rfl) (fun z => nomatch z)) (fun z => nomatch z), k _ s1⟩
      · exact ⟨_, t, [.ty "list", .ty "tuple"], _, _, false, rfl, upd_same, .cons (.ty _) (.cons (.ty _) .nil), .base (.int n), kitAny_cons (b := false) (kit_ty (by decide +kernel)) (fun _ => kitAny_cons (b := false) (kit_ty (by decide +kernel)) (fun _ => rfl) (fun z => nomatch z)) (fun z => nomatch z), k _ s1⟩
      · exact ⟨_, t, [.ty "list", .ty "tuple"], _, _, false, rfl, upd_same, .cons (.ty _) (.cons (.ty _) .nil), .base (.str z), kitAny_cons (b := false) (kit_ty (by decide +kernel)) (fun _ => kitAny_cons (b := false) (kit_ty (by decide +kernel)) (fun _ => rfl) (fun z => nomatch z)) (fun z => nomatch z), k _ s1⟩
end
end My
set_option Elab.async false
set_option linter.all false
set_option maxRecDepth 100000
set_option maxHeartbeats 8000000
namespace My
open PySem PySem.Spec PyProof.Rows L2
local macro_rules | `(tactic| walk_at "lv") => `(tactic| first | exact Or.inl rfl | exact Or.inr rfl)
theorem El.eqW' {K : PySem.W.Frag} {H : Hp} {x : V} {d : PyData} (h : El K H x d) (z : Str) : PyData.eqv (.str z) d = isW x z := by
  cases h with
  | str y =>
    show (z == y) = decide (y = z)
    rw [show (z == y) = decide (z = y) from by by_cases e : z = y <;> simp [e]]
    exact dec_cong ⟨Eq.symm, Eq.symm⟩
  | _ => rfl
theorem at_head {x : V} {r : List V} : atI (x :: r) 0 = some x := atI_nat (j := 0) (xs := x :: r) rfl
theorem fitsL_turn {x : V} {r : List V} (h : isW x "turn" = true) : fitsL (x :: r) = r.isEmpty := by
  show (if isW x "turn" = true then r.isEmpty else _) = _
  rw [if_pos h]
theorem fitsL_len {x : V} {r : List V} (h : isW x "turn" = false) (hl : r.length ≠ 1) : fitsL (x :: r) = false := by
  match r, hl with
  | [], _ => show (if isW x "turn" = true then _ else false) = _; rw [h, if_neg Bool.false_ne_true]
  | [_], hl => exact absurd rfl hl
  | _ :: _ :: _, _ => show (if isW x "turn" = true then _ else false) = _; rw [h, if_neg Bool.false_ne_true]
theorem fitsL_mod {x y : V} (h : isW x "turn" = false) (h2 : isW x "mod" = true) : fitsL [x, y] = wD 1 6 y := by
  show (if isW x "turn" = true then _ else (if isW x "mod" = true then wD 1 6 y else _)) = _
  rw [h, if_neg Bool.false_ne_true, h2, if_pos rfl]
theorem fitsL_sa {x y : V} (h : isW x "turn" = false) (h2 : isW x "mod" = false) : fitsL [x, y] = ((isW x "set" || isW x "add") && wD (-20) 20 y) := by
  show (if isW x "turn" = true then _ else (if isW x "mod" = true then wD 1 6 y else _)) = _
  rw [h, if_neg Bool.false_ne_true, h2, if_neg Bool.false_ne_true]
theorem fitsT_rest {x y z : V} (h : isW x "rest" = true) : fitsT [x, y, z] = (wD 1 6 y && wD 0 (intOf y - 1) z) := by
  show (if isW x "rest" = true then (wD 1 6 y && wD 0 (intOf y - 1) z) else _) = _
  rw [if_pos h]
theorem fitsT_restN {x : V} {r : List V} (h : isW x "rest" = true) (hl : r.length ≠ 2) : fitsT (x :: r) = false := by
  match r, hl with
  | [], _ => show (if isW x "rest" = true then false else _) = _; rw [if_pos h]
  | [_], _ => show (if isW x "rest" = true then false else _) = _; rw [if_pos h]
  | [_, _], hl => exact absurd rfl hl
  | _ :: _ :: _ :: _, _ => show (if isW x "rest" = true then false else _) = _; rw [if_pos h]
theorem fitsT_bi {x y : V} (h : isW x "rest" = false) : fitsT [x, y] = ((isW x "below" || isW x "is") && wD (-20) 20 y) := by
  show (if isW x "rest" = true then _ else ((isW x "below" || isW x "is") && wD (-20) 20 y)) = _
  rw [h, if_neg Bool.false_ne_true]
theorem fitsT_len {x : V} {r : List V} (h : isW x "rest" = false) (hl : r.length ≠ 1) : fitsT (x :: r) = false := by
  match r, hl with
  | [], _ => show (if isW x "rest" = true then _ else false) = _; rw [h, if_neg Bool.false_ne_true]
  | [_], hl => exact absurd rfl hl
  | _ :: _ :: _, _ => show (if isW x "rest" = true then _ else false) = _; rw [h, if_neg Bool.false_ne_true]
/-- a thing's part that stays -/
def Fine (K : PySem.W.Frag) (H : Hp) (x : V) : Prop := ∃ d, El K H x d ∧ ∀ a xs, x = .ref a → H a = some (.lst xs) → ∀ y ∈ xs, (∃ n, y = .int n) ∨ ∃ z, y = .str z
theorem Fine.same {K : PySem.W.Frag} {H H' : Hp} {x : V} (s : Same H H') (h : Fine K H x) : Fine K H' x := by
  obtain ⟨d, e, f⟩ := h
  refine ⟨d, e.same s f, fun a xs hx hH => ?_⟩
  cases e with
  | lst e1 _ _ =>
    cases hx
    have e2 := s _ _ e1
    rw [hH] at e2
    cases e2
    exact f _ _ rfl e1
  | _ => cases hx
theorem fine_int {K : PySem.W.Frag} {H : Hp} (n : Int) : Fine K H (.int n) := ⟨_, .int n, fun _ _ z => nomatch z⟩
theorem fine_bl {K : PySem.W.Frag} {H : Hp} (b : Bool) : Fine K H (.bl b) := ⟨_, .bl b, fun _ _ z => nomatch z⟩
theorem fine_non {K : PySem.W.Frag} {H : Hp} : Fine K H .non := ⟨_, .non, fun _ _ z => nomatch z⟩
theorem fine_str {K : PySem.W.Frag} {H : Hp} (x : Str) (sh : SeqAt.shaped (.str x) = true) : Fine K H (.str x) := ⟨_, .str x sh, fun _ _ z => nomatch z⟩
section
variable {P : Program} {w : World} {K : PySem.W.Frag} {mg : Str → Option Value} {base : Heap}
/-! ### fits_letter, fits_test -/
def spFit (K : PySem.W.Frag) (f : List V → Bool) : Sp := fun vs H Q _ => ∃ x, vs = [x] ∧ ((Flat x ∧ ∀ H', Same H H' → Q (.bl false) H') ∨ ∃ a xs, x = .ref a ∧ SqA H a xs ∧ (∀ y ∈ xs, Fine K H y) ∧ ∀ H', Same H H' → Q (.bl (f xs)) H')
abbrev s_fl : Stmt := top 13
abbrev N_fl : List Str := ["letter"]
theorem sc_fl : FnScope N_fl ["letter"] (defScope s_fl) := ⟨rfl, rfl, rfl, by decide +kernel, rfl, by decide +kernel, by decide +kernel⟩
theorem vlen {n : Nat} {m : Int} : decide (V.int (n : Int) = V.int m) = decide ((n : Int) = m) := vint
theorem kp_fl (F : At K mg "fits_letter" s_fl) (N : Nb mg) (mM : ∃ t, mg "MOST" = some (.int 20 t)) (mR : ∃ t, mg "MOST_REST" = some (.int 6 t)) (Gs : Keeps CX0 P w K mg base "is_sequence" 1 ["thing"] spSeqD) (Gw : Keeps CX0 P w K mg base "is_whole_from" 2 ["thing", "low", "high"] (spWfD K)) :
    Keeps CX0 P w K mg base "fits_letter" 3 ["letter"] (spFit K fitsL) := by
  refine keeps_of F sc_fl (fun _ _ _ _ _ _ us hl => match us, hl with | [_], _ => rfl) (fun vs H Q E h => ?_) (fun f cdv A outer s H vs Q E hr h => ?_)
  · obtain ⟨x, rfl, _⟩ := h
    rfl
  · obtain ⟨x, rfl, h⟩ := h
    obtain ⟨tM, mM⟩ := mM
    obtain ⟨tR, mR⟩ := mR
    have h1 : Room 1 (A.deeper (envOfC "fits_letter" (defScope s_fl) s.heap.objs.size f cdv)) := hr.mono (by decide)
    have hu65 : (A.deeper (envOfC "fits_letter" (defScope s_fl) s.heap.objs.size f cdv)).units + 65 < cLine := by have := hr.un; omega
    refine ⟨_, (pss_cons (ps_if (PW.pt (pw_or (pt_not (pt_val (pe_k Gs h1 (by rfl) pass0 (pa_cons (pv 0) pa_nil)))) (pw_or1 (pt_not (pt_truth (pv 0) (by intro _; rfl)))))) (pss_one (ps_ret pe_bl)) pss_nil)
        (pss_cons (ps_if (pt_cmpR (op_eqD hr.units) (pe_ix ix_any (pv 0) pe_int (fun _ _ => rfl)) pe_str (nomark _)) (pss_one (ps_ret (pe_cmpR op_eq (pe_callB call_len_seq (by rfl) N.len (by decide +kernel) (pa_cons (pv 0) pa_nil)) pe_int (nomark _)))) pss_nil)
        (pss_cons (ps_if (pt_cmpR op_ne (pe_callB call_len_seq (by rfl) N.len (by decide +kernel) (pa_cons (pv 0) pa_nil)) pe_int (nomark _)) (pss_one (ps_ret pe_bl)) pss_nil)
        (pss_cons (ps_if (pt_cmpR (op_eqD hr.units) (pe_ix ix_any (pv 0) pe_int (fun _ _ => rfl)) pe_str (nomark _)) (pss_one (ps_ret (pe_k Gw hr (by rfl) pass0 (pa_cons (pe_ix ix_any (pv 0) pe_int (fun _ _ => rfl)) (pa_cons pe_int (pa_cons (pe_glob (v := .int 6) (by rfl) mR ⟨_, rfl⟩) pa_nil)))))) pss_nil)
        (pss_one (ps_ret (pe_and (pe_cmpR (op_inT hu65) (pe_ix ix_any (pv 0) pe_int (fun _ _ => rfl)) (pe_tup (pa_cons pe_str (pa_cons pe_str pa_nil))) (by rfl)) (pe_one (pe_k Gw hr (by rfl) pass0 (pa_cons (pe_ix ix_any (pv 0) pe_int (fun _ _ => rfl)) (pa_cons (pe_un un_neg (pe_glob (v := .int 20) (by rfl) mM ⟨_, rfl⟩)) (pa_cons (pe_glob (v := .int 20) (by rfl) mM ⟨_, rfl⟩) pa_nil)))))))))))), ?_⟩
    rcases h with ⟨fx, k⟩ | ⟨a, xs, rfl, hs, fine, k⟩
    · exact ⟨_, rfl, .inr ⟨x, rfl, fx, fun H1 s1 => ⟨_, rfl, iteT (iteT (k H1 s1))⟩⟩⟩
    · refine ⟨_, rfl, .inl ⟨a, xs, rfl, hs, fun H1 s1 => ⟨_, rfl, iteF ⟨_, rfl, _, truA (hs.same s1), ?_⟩⟩⟩⟩
      have hs1 := hs.same s1
      cases xs with
      | nil => exact iteT (k H1 s1)
      | cons x r =>
        obtain ⟨d, e0, _⟩ := (fine x List.mem_cons_self).same s1
        refine iteF ⟨_, rfl, ixA_of hs1 at_head ⟨d, _, e0.dp, .str _, e0.shaped, by decide +kernel, _, rfl, ?_⟩⟩
        rw [e0.eqW]
        have kk := k H1 s1
        cases ew : isW x "turn" with
        | true =>
          rw [fitsL_turn ew] at kk
          refine iteT ⟨_, rfl, a, _, rfl, lenA hs1, rfl, ?_⟩
          rw [vint]
          cases r with
          | nil => exact kk
          | cons y t =>
            rw [decide_eq_false (by rw [List.length_cons, List.length_cons]; omega)]
            exact kk
        | false =>
          refine iteF ⟨_, rfl, a, _, rfl, lenA hs1, rfl, _, rfl, ?_⟩
          rw [vint]
          by_cases hl : r.length = 1
          · obtain ⟨y, rfl⟩ : ∃ y, r = [y] := match r, hl with | [y], _ => ⟨y, rfl⟩
            obtain ⟨d1, e1, _⟩ := (fine y (List.mem_cons_of_mem _ List.mem_cons_self)).same s1
            refine iteF ⟨_, rfl, ixA_of hs1 rfl ⟨d, _, e0.dp, .str _, e0.shaped, by decide +kernel, _, rfl, ?_⟩⟩
            rw [e0.eqW]
            cases em : isW x "mod" with
            | true =>
              rw [fitsL_mod ew em] at kk
              exact iteT ⟨_, rfl, ixA_of hs1 rfl ⟨y, d1, 1, 6, rfl, e1, kk⟩⟩
            | false =>
              refine iteF ⟨_, rfl, ixA_of hs1 rfl ⟨(by show 2 ≤ sizeLine; decide), fun t ht => ?_⟩⟩
              have s2 := same_new (o := .tup [V.str "set", V.str "add"]) (Same.refl H1) ht
              obtain ⟨d', e0', _⟩ := (fine x List.mem_cons_self).same (s1.trans s2)
              obtain ⟨d2, e2, _⟩ := (fine y (List.mem_cons_of_mem _ List.mem_cons_self)).same (s1.trans s2)
              have k4 := k _ (s1.trans s2)
              rw [fitsL_sa ew em] at k4
              refine ⟨d', [.str "set", .str "add"], e0'.dp, .tup (SqT.of upd_same) (.cons (.str _) (.cons (.str _) .nil)), e0'.shaped, by decide +kernel, _, rfl, ?_⟩
              rw [show (([.str "set", .str "add"] : List PyData).any fun z => PyData.eqv z d') = (isW x "set" || isW x "add") from by
                show (PyData.eqv (.str "set") d' || (PyData.eqv (.str "add") d' || false)) = _
                rw [e0'.eqW', e0'.eqW', Bool.or_false]]
              cases eo : (isW x "set" || isW x "add") with
              | false =>
                rw [eo] at k4
                exact iteF k4
              | true =>
                rw [eo] at k4
                exact iteT ⟨_, rfl, ixA_of (hs1.same s2) rfl ⟨_, rfl, y, d2, -20, 20, rfl, e2, k4⟩⟩
          · rw [fitsL_len ew hl] at kk
            rw [decide_eq_false (by rw [List.length_cons]; omega)]
            exact iteT kk
abbrev s_ft : Stmt := top 14
abbrev N_ft : List Str := ["test"]
theorem sc_ft : FnScope N_ft ["test"] (defScope s_ft) := ⟨rfl, rfl, rfl, by decide +kernel, rfl, by decide +kernel, by decide +kernel⟩
theorem kp_ft (F : At K mg "fits_test" s_ft) (N : Nb mg) (mM : ∃ t, mg "MOST" = some (.int 20 t)) (mR : ∃ t, mg "MOST_REST" = some (.int 6 t)) (Gs : Keeps CX0 P w K mg base "is_sequence" 1 ["thing"] spSeqD) (Gw : Keeps CX0 P w K mg base "is_whole_from" 2 ["thing", "low", "high"] (spWfD K)) :
    Keeps CX0 P w K mg base "fits_test" 3 ["test"] (spFit K fitsT) := by
  refine keeps_of F sc_ft (fun _ _ _ _ _ _ us hl => match us, hl with | [_], _ => rfl) (fun vs H Q E h => ?_) (fun f cdv A outer s H vs Q E hr h => ?_)
  · obtain ⟨x, rfl, _⟩ := h
    rfl
  · obtain ⟨x, rfl, h⟩ := h
    obtain ⟨tM, mM⟩ := mM
    obtain ⟨tR, mR⟩ := mR
    have h1 : Room 1 (A.deeper (envOfC "fits_test" (defScope s_ft) s.heap.objs.size f cdv)) := hr.mono (by decide)
    have hu65 : (A.deeper (envOfC "fits_test" (defScope s_ft) s.heap.objs.size f cdv)).units + 65 < cLine := by have := hr.un; omega
    refine ⟨_, (pss_cons (ps_if (PW.pt (pw_or (pt_not (pt_val (pe_k Gs h1 (by rfl) pass0 (pa_cons (pv 0) pa_nil)))) (pw_or1 (pt_not (pt_truth (pv 0) (by intro _; rfl)))))) (pss_one (ps_ret pe_bl)) pss_nil)
        (pss_cons (ps_if (pt_cmpR (op_eqD hr.units) (pe_ix ix_any (pv 0) pe_int (fun _ _ => rfl)) pe_str (nomark _)) (pss_one (ps_ret (pe_and (pe_cmpR op_eq (pe_callB call_len_seq (by rfl) N.len (by decide +kernel) (pa_cons (pv 0) pa_nil)) pe_int (nomark _)) (pe_and (pe_k Gw hr (by rfl) pass0 (pa_cons (pe_ix ix_any (pv 0) pe_int (fun _ _ => rfl)) (pa_cons pe_int (pa_cons (pe_glob (v := .int 6) (by rfl) mR ⟨_, rfl⟩) pa_nil)))) (pe_one (pe_k Gw hr (by rfl) pass0 (pa_cons (pe_ix ix_any (pv 0) pe_int (fun _ _ => rfl)) (pa_cons pe_int (pa_cons (pe_op op_sub (pe_ix ix_any (pv 0) pe_int (fun _ _ => rfl)) pe_int) pa_nil))))))))) pss_nil)
        (pss_one (ps_ret (pe_and (pe_cmpR op_eq (pe_callB call_len_seq (by rfl) N.len (by decide +kernel) (pa_cons (pv 0) pa_nil)) pe_int (nomark _)) (pe_and (pe_cmpR (op_inT hu65) (pe_ix ix_any (pv 0) pe_int (fun _ _ => rfl)) (pe_tup (pa_cons pe_str (pa_cons pe_str pa_nil))) (by rfl)) (pe_one (pe_k Gw hr (by rfl) pass0 (pa_cons (pe_ix ix_any (pv 0) pe_int (fun _ _ => rfl)) (pa_cons (pe_un un_neg (pe_glob (v := .int 20) (by rfl) mM ⟨_, rfl⟩)) (pa_cons (pe_glob (v := .int 20) (by rfl) mM ⟨_, rfl⟩) pa_nil))))))))))), ?_⟩
    rcases h with ⟨fx, k⟩ | ⟨a, xs, rfl, hs, fine, k⟩
    · exact ⟨_, rfl, .inr ⟨x, rfl, fx, fun H1 s1 => ⟨_, rfl, iteT (iteT (k H1 s1))⟩⟩⟩
    · refine ⟨_, rfl, .inl ⟨a, xs, rfl, hs, fun H1 s1 => ⟨_, rfl, iteF ⟨_, rfl, _, truA (hs.same s1), ?_⟩⟩⟩⟩
      have hs1 := hs.same s1
      cases xs with
      | nil => exact iteT (k H1 s1)
      | cons x r =>
        obtain ⟨d, e0, _⟩ := (fine x List.mem_cons_self).same s1
        refine iteF ⟨_, rfl, ixA_of hs1 at_head ⟨d, _, e0.dp, .str _, e0.shaped, by decide +kernel, _, rfl, ?_⟩⟩
        rw [e0.eqW]
        have kk := k H1 s1
        cases ew : isW x "rest" with
        | true =>
          refine iteT ⟨_, rfl, a, _, rfl, lenA hs1, rfl, _, rfl, ?_⟩
          rw [vint]
          by_cases hl : r.length = 2
          · obtain ⟨y, z, rfl⟩ : ∃ y z, r = [y, z] := match r, hl with | [y, z], _ => ⟨y, z, rfl⟩
            obtain ⟨d1, e1, _⟩ := (fine y (List.mem_cons_of_mem _ List.mem_cons_self)).same s1
            obtain ⟨d2, e2, _⟩ := (fine z (List.mem_cons_of_mem _ (List.mem_cons_of_mem _ List.mem_cons_self))).same s1
            rw [fitsT_rest ew] at kk
            refine iteT ⟨_, rfl, ixA_of hs1 rfl ⟨y, d1, 1, 6, rfl, e1, _, rfl, ?_⟩⟩
            cases e1 with
            | int n =>
              cases ey : wD 1 6 (.int n) with
              | false =>
                rw [ey] at kk
                exact iteF kk
              | true =>
                rw [ey] at kk
                exact iteT ⟨_, rfl, ixA_of hs1 rfl ⟨_, rfl, ixA_of hs1 rfl ⟨_, _, rfl, rfl, z, d2, 0, n - 1, rfl, e2, kk⟩⟩⟩
            | non => exact iteF kk
            | bl b => exact iteF kk
            | str u _ => exact iteF kk
            | lst _ _ _ => exact iteF kk
          · rw [fitsT_restN ew hl] at kk
            rw [decide_eq_false (by rw [List.length_cons]; omega)]
            exact iteF kk
        | false =>
          refine iteF ⟨_, rfl, a, _, rfl, lenA hs1, rfl, _, rfl, ?_⟩
          rw [vint]
          by_cases hl : r.length = 1
          · obtain ⟨y, rfl⟩ : ∃ y, r = [y] := match r, hl with | [y], _ => ⟨y, rfl⟩
            refine iteT ⟨_, rfl, ixA_of hs1 rfl ⟨(by show 2 ≤ sizeLine; decide), fun t ht => ?_⟩⟩
            have s2 := same_new (o := .tup [V.str "below", V.str "is"]) (Same.refl H1) ht
            obtain ⟨d', e0', _⟩ := (fine x List.mem_cons_self).same (s1.trans s2)
            obtain ⟨d2, e2, _⟩ := (fine y (List.mem_cons_of_mem _ List.mem_cons_self)).same (s1.trans s2)
            have k4 := k _ (s1.trans s2)
            rw [fitsT_bi ew] at k4
            refine ⟨d', [.str "below", .str "is"], e0'.dp, .tup (SqT.of upd_same) (.cons (.str _) (.cons (.str _) .nil)), e0'.shaped, by decide +kernel, _, rfl, ?_⟩
            rw [show (([.str "below", .str "is"] : List PyData).any fun z => PyData.eqv z d') = (isW x "below" || isW x "is") from by
              show (PyData.eqv (.str "below") d' || (PyData.eqv (.str "is") d' || false)) = _
              rw [e0'.eqW', e0'.eqW', Bool.or_false]]
            cases eo : (isW x "below" || isW x "is") with
            | false =>
              rw [eo] at k4
              exact iteF k4
            | true =>
              rw [eo] at k4
              exact iteT ⟨_, rfl, ixA_of (hs1.same s2) rfl ⟨_, rfl, y, d2, -20, 20, rfl, e2, k4⟩⟩
          · rw [fitsT_len ew hl] at kk
            rw [decide_eq_false (by rw [List.length_cons]; omega)]
            exact iteF kk
end
end My
set_option Elab.async false
set_option linter.all false
set_option maxRecDepth 100000
set_option maxHeartbeats 8000000
namespace My
open PySem PySem.Spec PyProof.Rows L2
local macro_rules | `(tactic| walk_at "lv") => `(tactic| first | exact Or.inl rfl | exact Or.inr rfl)
/-! ### X() raised, isinstance of it -/
theorem pmk0 {X : L2.Cx} {x b : Str} {p pos : Pos} (T : ExF X.K X.mg x b []) (hg : Gl X x) (dbg : (x == ("__debug__" : Str)) = false := by decide) :
    PMk X (.Call (.Name x p) [] [] pos) (fun _ H Q => Q (.ref (He.ga X.K x)) none H) := by
  intro pins s σ H Q I h
  refine wpAny_Call_Name_kw (ld_glob I hg T.g ?_ dbg)
  refine PySem.W.callWith_K0 I.kIn T.kC ?_
  show wpAny _ _ (call (.ref (He.ga X.K x)) []) _ _ _
  obtain ⟨bm, N, nm, qn, bs, hdct, sn, sub, ab, col, dd, k0, k1, k2, k3, k5, mN, hC, hN, hni, TL⟩ := exc_obj I.kIn (T.new rfl)
  refine wpAny_call_exc_subT PySem.F.excBase_ValueError TL hC hN hni (fun h' a hm => ?_) (by show 0 ≤ sizeLine; exact Nat.zero_le _)
  exact mk_of I hm (raises_own T.exC T.ty) h (I.hok.gone hm.new)
def rIsE0 (K : PySem.W.Frag) (D a : Addr) (cls : Value) (d : Option Addr) : List V → Hp → VK → Prop := fun xs H Q => cls = .ref D ∧ d = none ∧ rIsE K D a xs H Q
theorem call_isE0 {X : L2.Cx} {a D : Addr} {oe : Obj} {cls : Value} {d : Option Addr} {pn : List (Addr × Obj)} (C : ExcC X.K D) (hz : Zc cls d oe) (hf : ∃ vs, oe.data = .fields vs) : CallR (X.suite a ((a, oe) :: pn)) (.builtin "isinstance") (rIsE0 X.K D a cls d) := by
  intro pns s σ H xs us Q I r h
  obtain ⟨rfl, rfl, h⟩ := h
  exact call_isE C hz hf pns s σ H xs us Q I r h
section
variable {P : Program} {w : World} {K : PySem.W.Frag} {mg : Str → Option Value} {base : Heap}
/-! ### check_letter, check_test -/
theorem chk_walk {K : PySem.W.Frag} {a : Addr} {xs : List V} {H H1 : Hp} {Q : VK} (hs : SqA H a xs) (s1 : Same H H1) (k : ∀ q H', Same H H' → H' q = some (.tup xs) → Q (.ref q) H') :
    ∃ p ys, ([V.ref a] : List V) = [.ref p] ∧ ((SqL K H1 p ys ∧ ∀ l, H1 l = none → Q (.ref l) (upd H1 l (.tup ys))) ∨ (SqT K H1 p ys ∧ Q (.ref p) H1)) := by
  rcases hs with hs | hs
  · exact ⟨a, xs, rfl, .inl ⟨SqL.of (s1 _ _ hs), fun l hl => k l _ (same_new s1 hl) upd_same⟩⟩
  · exact ⟨a, xs, rfl, .inr ⟨SqT.of (s1 _ _ hs), k a _ s1 (s1 _ _ hs)⟩⟩
/-! ### _law_letter_told, _law_test_told -/
end
end My
set_option Elab.async false
set_option linter.all false
set_option maxRecDepth 100000
set_option maxHeartbeats 8000000
namespace My
open PySem PySem.Spec PyProof.Rows L2
local macro_rules | `(tactic| walk_at "lv") => `(tactic| first | exact Or.inl rfl | exact Or.inr rfl)
/-! ### things of any depth, by their data -/
/-- a thing with the data d at x, which stays but at p -/
def Th (K : PySem.W.Frag) (p : Addr) (H : Hp) (x : V) (d : PyData) : Prop := SeqAt.shaped d = true ∧ ∀ H', But p H H' → Dp K H' x d
theorem Th.but {K : PySem.W.Frag} {p : Addr} {H H' : Hp} {x : V} {d : PyData} (b : But p H H') (h : Th K p H x d) : Th K p H' x d := ⟨h.1, fun H2 b2 => h.2 H2 (b.trans b2)⟩
theorem Th.same {K : PySem.W.Frag} {p : Addr} {H H' : Hp} {x : V} {d : PyData} (s : Same H H') (h : Th K p H x d) : Th K p H' x d := h.but (But.of s)
theorem Th.dp {K : PySem.W.Frag} {p : Addr} {H : Hp} {x : V} {d : PyData} (h : Th K p H x d) : Dp K H x d := h.2 H (But.refl p H)
theorem th_int {K : PySem.W.Frag} {p : Addr} {H : Hp} (n : Int) : Th K p H (.int n) (.int n) := ⟨rfl, fun _ _ => .int n⟩
theorem th_bl {K : PySem.W.Frag} {p : Addr} {H : Hp} (b : Bool) : Th K p H (.bl b) (.bool b) := ⟨rfl, fun _ _ => .bl b⟩
theorem th_non {K : PySem.W.Frag} {p : Addr} {H : Hp} : Th K p H .non .none := ⟨rfl, fun _ _ => .non⟩
theorem th_str {K : PySem.W.Frag} {p : Addr} {H : Hp} (z : Str) (sh : SeqAt.shaped (.str z) = true) : Th K p H (.str z) (.str z) := ⟨sh, fun _ _ => .str z⟩
def ThAll (K : PySem.W.Frag) (p : Addr) (H : Hp) (xs : List V) (ds : List PyData) : Prop := ∀ H', But p H H' → DpAll K H' xs ds
theorem thAll_nil {K : PySem.W.Frag} {p : Addr} {H : Hp} : ThAll K p H [] [] := fun _ _ => .nil
theorem thAll_cons {K : PySem.W.Frag} {p : Addr} {H : Hp} {x : V} {d : PyData} {xs : List V} {ds : List PyData} (h : Th K p H x d) (r : ThAll K p H xs ds) : ThAll K p H (x :: xs) (d :: ds) := fun H' b => .cons (h.2 H' b) (r H' b)
theorem th_tup {K : PySem.W.Frag} {p a : Addr} {H : Hp} {xs : List V} {ds : List PyData} (e : H a = some (.tup xs)) (ne : a ≠ p) (r : ThAll K p H xs ds) (sh : SeqAt.shaped (.tuple ds) = true) : Th K p H (.ref a) (.tuple ds) := ⟨sh, fun H' b => .tup (SqT.of (b _ _ ne e)) (r H' b)⟩
theorem th_lst {K : PySem.W.Frag} {p a : Addr} {H : Hp} {xs : List V} {ds : List PyData} (e : H a = some (.lst xs)) (ne : a ≠ p) (r : ThAll K p H xs ds) (sh : SeqAt.shaped (.list ds) = true) : Th K p H (.ref a) (.list ds) := ⟨sh, fun H' b => .lst (SqL.of (b _ _ ne e)) (r H' b)⟩
/-- the name of the type of data -/
def tyN : PyData → String
  | .none => "NoneType"
  | .bool _ => "bool"
  | .int _ => "int"
  | .str _ => "str"
  | .list _ => "list"
  | .tuple _ => "tuple"
  | _ => "?"
theorem dp_ty {K : PySem.W.Frag} {H : Hp} {x : V} {d : PyData} (h : Dp K H x d) : TyX K H x (.type (tyN d)) := by
  cases h with
  | non => exact .base .non
  | bl b => exact .base (.bl b)
  | int n => exact .base (.int n)
  | str z => exact .base (.str z)
  | lst s _ =>
    rcases s with s | ⟨o, its, n, e, c, _⟩
    · rcases s with s | ⟨o, s⟩
      · exact .base (.lst s)
      · exact .base (.frz s)
    · exact .kList e c
  | tup s _ =>
    rcases s with s | ⟨o, its, n, e, c, _⟩
    · rcases s with s | ⟨o, s⟩
      · exact .base (.tup s)
      · exact .fTuple s
    · exact .kTuple e c
def isSq : PyData → Bool
  | .list _ => true
  | .tuple _ => true
  | _ => false
section
variable {P : Program} {w : World} {K : PySem.W.Frag} {mg : Str → Option Value} {base : Heap}
def spSeqT (K : PySem.W.Frag) : Sp := fun vs H Q _ => ∃ (p : Addr) (x : V) (d : PyData), vs = [x] ∧ Th K p H x d ∧ ∀ H', Same H H' → Q (.bl (isSq d)) H'
theorem kp_seqT (F : At K mg "is_sequence" s_seq) (N : Nb mg) : Keeps CX0 P w K mg base "is_sequence" 1 ["thing"] (spSeqT K) := by
  refine keeps_of F sc_seq (fun _ _ _ _ _ _ us hl => match us, hl with | [_], _ => rfl) (fun vs H Q E h => ?_) (fun f cdv A outer s H vs Q E hr h => ?_)
  · obtain ⟨p, x, d, rfl, _⟩ := h
    rfl
  · obtain ⟨p, x, d, rfl, hx, k⟩ := h
    refine ⟨_, (pss_one (ps_ret (pe_callB call_isiT (by rfl) N.isinstance boot_isinstance (pa_cons (pv 0) (pa_cons (pe_tup (pa_cons (pe_bltn (v := .ty "list") (by rfl) N.list (by decide +kernel) rfl) (pa_cons (pe_bltn (v := .ty "tuple") (by rfl) N.tuple (by decide +kernel) rfl) pa_nil))) pa_nil))))), ?_⟩
    refine ⟨_, rfl, ⟨(by show 2 ≤ sizeLine; decide), fun t ht => ?_⟩⟩
    have s1 := same_new (o := .tup [V.ty "list", V.ty "tuple"]) (Same.refl H) ht
    have hx1 := (hx.same s1).dp
    have ty := dp_ty hx1
    have k1 := k _ s1
    refine ⟨x, t, [.ty "list", .ty "tuple"], _, _, isSq d, rfl, upd_same, .cons (.ty _) (.cons (.ty _) .nil), ty, ?_, k1⟩
    cases hx1 with
    | lst _ _ => exact kitAny_cons (b := true) (kit_ty (a := "list") (by decide +kernel)) (fun z => nomatch z) (fun _ => rfl)
    | tup _ _ => exact kitAny_cons (b := false) (kit_ty (a := "tuple") (by decide +kernel)) (fun _ => kitAny_cons (b := true) (kit_ty (a := "tuple") (by decide +kernel)) (fun z => nomatch z) (fun _ => rfl)) (fun z => nomatch z)
    | non => exact kitAny_cons (b := false) (kit_ty (a := "NoneType") (by decide +kernel)) (fun _ => kitAny_cons (b := false) (kit_ty (a := "NoneType") (by decide +kernel)) (fun _ => rfl) (fun z => nomatch z)) (fun z => nomatch z)
    | bl b => exact kitAny_cons (b := false) (kit_ty (a := "bool") (by decide +kernel)) (fun _ => kitAny_cons (b := false) (kit_ty (a := "bool") (by decide +kernel)) (fun _ => rfl) (fun z => nomatch z)) (fun z => nomatch z)
    | int n => exact kitAny_cons (b := false) (kit_ty (a := "int") (by decide +kernel)) (fun _ => kitAny_cons (b := false) (kit_ty (a := "int") (by decide +kernel)) (fun _ => rfl) (fun z => nomatch z)) (fun z => nomatch z)
    | str z => exact kitAny_cons (b := false) (kit_ty (a := "str") (by decide +kernel)) (fun _ => kitAny_cons (b := false) (kit_ty (a := "str") (by decide +kernel)) (fun _ => rfl) (fun z => nomatch z)) (fun z => nomatch z)
end
end My
set_option Elab.async false
set_option linter.all false
set_option maxRecDepth 100000
set_option maxHeartbeats 8000000
namespace My
open PySem PySem.Spec PyProof.Rows L2
local macro_rules | `(tactic| walk_at "lv") => `(tactic| first | exact Or.inl rfl | exact Or.inr rfl)
def wDd (lo hi : Int) : PyData → Bool
  | .int n => decide (lo ≤ n) && decide (n ≤ hi)
  | _ => false
def isIntD : PyData → Bool
  | .int _ => true
  | _ => false
/-- a list or a tuple of the data ds stands at x -/
def SqD (K : PySem.W.Frag) (H : Hp) (x : V) (ds : List PyData) : Prop := ∃ a xs, x = .ref a ∧ (SqL K H a xs ∨ SqT K H a xs) ∧ DpAll K H xs ds
theorem SqD.of {K : PySem.W.Frag} {H : Hp} {x : V} {d : PyData} {ds : List PyData} (h : Dp K H x d) (e : d = .list ds ∨ d = .tuple ds) : SqD K H x ds := by
  rcases e with rfl | rfl
  · cases h with
    | lst s r => exact ⟨_, _, rfl, .inl s, r⟩
  · cases h with
    | tup s r => exact ⟨_, _, rfl, .inr s, r⟩
theorem dpAll_len {K : PySem.W.Frag} {H : Hp} : ∀ {xs : List V} {ds : List PyData}, DpAll K H xs ds → xs.length = ds.length
  | _, _, .nil => rfl
  | _, _, .cons _ r => congrArg Nat.succ (dpAll_len r)
theorem dpAll_get {K : PySem.W.Frag} {H : Hp} : ∀ {xs : List V} {ds : List PyData} {i : Nat} {d : PyData}, DpAll K H xs ds → ds[i]? = some d → ∃ x, xs[i]? = some x ∧ Dp K H x d
  | _, _, 0, _, .cons h _, e => by cases e; exact ⟨_, rfl, h⟩
  | _, _, i + 1, _, .cons _ r, e => dpAll_get (i := i) r (by simpa using e)
  | _, _, _, _, .nil, hq => by simp at hq
/-- an item -/
theorem SqD.ix {K : PySem.W.Frag} {H : Hp} {x : V} {ds : List PyData} {i : Nat} {d : PyData} {Q : VK} (h : SqD K H x ds) (e : ds[i]? = some d) (k : ∀ v, Dp K H v d → Q v H) : rIxA K x (.int i) H Q := by
  obtain ⟨a, xs, rfl, s, r⟩ := h
  obtain ⟨v, e1, hv⟩ := dpAll_get r e
  have e2 := atI_nat e1
  rcases s with s | s
  · exact .inl ⟨a, xs, i, v, rfl, rfl, s, e2, k v hv⟩
  · exact .inr ⟨a, xs, i, v, rfl, rfl, s, e2, k v hv⟩
theorem SqD.tru {K : PySem.W.Frag} {H : Hp} {x : V} {ds : List PyData} (h : SqD K H x ds) : TruV K x H (!ds.isEmpty) := by
  obtain ⟨a, xs, rfl, s, r⟩ := h
  have e : xs.isEmpty = ds.isEmpty := by cases r <;> rfl
  rw [← e]
  rcases s with s | s
  · exact .inl ⟨xs, s, rfl⟩
  · exact .inr (.inl ⟨xs, s, rfl⟩)
/-- its length -/
theorem SqD.len {K : PySem.W.Frag} {H : Hp} {x : V} {ds : List PyData} {Q : VK} (h : SqD K H x ds) (k : Q (.int ds.length) H) : ∃ p ys, ([x] : List V) = [V.ref p] ∧ (SqL K H p ys ∨ SqT K H p ys) ∧ Q (.int (ys.length : Nat)) H := by
  obtain ⟨a, xs, rfl, s, r⟩ := h
  refine ⟨a, xs, rfl, s, ?_⟩
  rw [dpAll_len r]
  exact k
section
variable {P : Program} {w : World} {K : PySem.W.Frag} {mg : Str → Option Value} {base : Heap}
def spWhT (K : PySem.W.Frag) : Sp := fun vs H Q _ => ∃ (x : V) (d : PyData), vs = [x] ∧ Dp K H x d ∧ Q (.bl (isIntD d)) H
theorem kp_whT (F : At K mg "is_whole" s_whole) (N : Nb mg) : Keeps CX0 P w K mg base "is_whole" 1 ["thing"] (spWhT K) := by
  refine keeps_of F sc_whole (fun _ _ _ _ _ _ us hl => match us, hl with | [_], _ => rfl) (fun vs H Q E h => ?_) (fun f cdv A outer s H vs Q E hr h => ?_)
  · obtain ⟨x, d, rfl, _⟩ := h
    rfl
  · obtain ⟨x, d, rfl, hx, k⟩ := h
    have ty := dp_ty hx
    refine ⟨_, (pss_one (ps_ret (pe_and (pe_callB call_isi (by rfl) N.isinstance boot_isinstance (pa_cons (pv 0) (pa_cons (pe_bltn (v := .ty "int") (by rfl) N.int (by decide +kernel) rfl) pa_nil))) (pe_one (pe_not (pe_callB call_isi (by rfl) N.isinstance boot_isinstance (pa_cons (pv 0) (pa_cons (pe_bltn (v := .ty "bool") (by rfl) N.bool (by decide +kernel) rfl) pa_nil)))))))), ?_⟩
    cases hx with
    | int a => exact ⟨_, rfl, _, .ty "int", _, _, true, rfl, .ty "int", ty, kit_ty (a := "int") (by decide +kernel), _, rfl, _, rfl, _, .ty "bool", _, _, false, rfl, .ty "bool", ty, kit_ty (a := "int") (by decide +kernel), _, rfl, k⟩
    | bl b => exact ⟨_, rfl, _, .ty "int", _, _, true, rfl, .ty "int", ty, kit_ty (a := "bool") (by decide +kernel), _, rfl, _, rfl, _, .ty "bool", _, _, true, rfl, .ty "bool", ty, kit_ty (a := "bool") (by decide +kernel), _, rfl, k⟩
    | non => exact ⟨_, rfl, _, .ty "int", _, _, false, rfl, .ty "int", ty, kit_ty (a := "NoneType") (by decide +kernel), _, rfl, k⟩
    | str z => exact ⟨_, rfl, _, .ty "int", _, _, false, rfl, .ty "int", ty, kit_ty (a := "str") (by decide +kernel), _, rfl, k⟩
    | lst _ _ => exact ⟨_, rfl, _, .ty "int", _, _, false, rfl, .ty "int", ty, kit_ty (a := "list") (by decide +kernel), _, rfl, k⟩
    | tup _ _ => exact ⟨_, rfl, _, .ty "int", _, _, false, rfl, .ty "int", ty, kit_ty (a := "tuple") (by decide +kernel), _, rfl, k⟩
def spWfT (K : PySem.W.Frag) : Sp := fun vs H Q _ => ∃ (x : V) (d : PyData) (lo hi : Int), vs = [x, .int lo, .int hi] ∧ Dp K H x d ∧ Q (.bl (wDd lo hi d)) H
theorem kp_wfT (F : At K mg "is_whole_from" s_wholeF) (G : Keeps CX0 P w K mg base "is_whole" 1 ["thing"] (spWhT K)) : Keeps CX0 P w K mg base "is_whole_from" 2 ["thing", "low", "high"] (spWfT K) := by
  refine keeps_of F sc_wholeF (fun _ _ _ _ _ _ us hl => match us, hl with | [_, _, _], _ => rfl) (fun vs H Q E h => ?_) (fun f cdv A outer s H vs Q E hr h => ?_)
  · obtain ⟨x, d, lo, hi, rfl, _⟩ := h
    rfl
  · obtain ⟨x, d, lo, hi, rfl, hx, k⟩ := h
    refine ⟨_, (pss_one (ps_ret (pe_and (pe_k G hr (by rfl) pass0 (pa_cons (pv 0) pa_nil)) (pe_one (pe_chain op_le op_le (pv 1) (pv 0) (pv 2)))))), ?_⟩
    refine ⟨_, rfl, x, d, rfl, hx, _, rfl, ?_⟩
    cases hx with
    | int a =>
      refine ⟨_, rfl, _, rfl, _, _, rfl, rfl, _, rfl, ?_⟩
      have k : Q (.bl (decide (lo ≤ a) && decide (a ≤ hi))) H := k
      by_cases h1 : lo ≤ a
      · rw [decide_eq_true h1] at k ⊢
        exact ⟨_, rfl, _, _, rfl, rfl, k⟩
      · rw [decide_eq_false h1] at k ⊢
        exact k
    | bl b => exact k
    | non => exact k
    | str z => exact k
    | lst _ _ => exact k
    | tup _ _ => exact k
/-! ### is_sequence_of -/
def lenIs (many : Int) : PyData → Bool
  | .list ds => decide ((ds.length : Int) = many)
  | .tuple ds => decide ((ds.length : Int) = many)
  | _ => false
def spSqo (K : PySem.W.Frag) : Sp := fun vs H Q _ => ∃ (p : Addr) (x : V) (d : PyData) (m : Int), vs = [x, .int m] ∧ Th K p H x d ∧ ∀ H', Same H H' → Q (.bl (lenIs m d)) H'
abbrev s_sqo : Stmt := top 5
abbrev N_sqo : List Str := ["thing", "many"]
theorem sc_sqo : FnScope N_sqo ["thing", "many"] (defScope s_sqo) := ⟨rfl, rfl, rfl, by decide +kernel, rfl, by decide +kernel, by decide +kernel⟩
theorem kp_sqo (F : At K mg "is_sequence_of" s_sqo) (N : Nb mg) (G : Keeps CX0 P w K mg base "is_sequence" 1 ["thing"] (spSeqT K)) : Keeps CX0 P w K mg base "is_sequence_of" 2 ["thing", "many"] (spSqo K) := by
  refine keeps_of F sc_sqo (fun _ _ _ _ _ _ us hl => match us, hl with | [_, _], _ => rfl) (fun vs H Q E h => ?_) (fun f cdv A outer s H vs Q E hr h => ?_)
  · obtain ⟨p, x, d, m, rfl, _⟩ := h
    rfl
  · obtain ⟨p, x, d, m, rfl, hx, k⟩ := h
    refine ⟨_, (pss_one (ps_ret (pe_and (pe_k G hr (by rfl) pass0 (pa_cons (pv 0) pa_nil)) (pe_one (pe_cmpR op_eq (pe_callB call_len_seq (by rfl) N.len (by decide +kernel) (pa_cons (pv 0) pa_nil)) (pv 1) (nomark _)))))), ?_⟩
    refine ⟨_, rfl, p, x, d, rfl, hx, fun H1 s1 => ⟨_, rfl, ?_⟩⟩
    have k1 := k H1 s1
    have h1 := (hx.same s1).dp
    cases h1 with
    | @lst a xs ds s r =>
      refine iteT ⟨_, rfl, a, xs, rfl, .inl s, _, rfl, rfl, ?_⟩
      rw [vint, dpAll_len r]
      exact k1
    | @tup a xs ds s r =>
      refine iteT ⟨_, rfl, a, xs, rfl, .inr s, _, rfl, rfl, ?_⟩
      rw [vint, dpAll_len r]
      exact k1
    | non => exact iteF k1
    | bl b => exact iteF k1
    | int n => exact iteF k1
    | str z => exact iteF k1
end
end My
set_option Elab.async false
set_option linter.all false
set_option maxRecDepth 100000
set_option maxHeartbeats 8000000
namespace My
open PySem PySem.Spec PyProof.Rows L2
local macro_rules | `(tactic| walk_at "lv") => `(tactic| first | exact Or.inl rfl | exact Or.inr rfl)
def eqS (d : PyData) (z : Str) : Bool := PyData.eqv d (.str z)
def flD : List PyData → Bool
  | [] => false
  | x :: r => if eqS x "turn" then r.isEmpty else match r with
    | [y] => if eqS x "mod" then wDd 1 6 y else (PyData.eqv (.str "set") x || PyData.eqv (.str "add") x) && wDd (-20) 20 y
    | _ => false
def rowsOf : PyData → Option (List PyData)
  | .list ds => some ds
  | .tuple ds => some ds
  | _ => none
def flT (d : PyData) : Bool := match rowsOf d with
  | some ds => flD ds
  | none => false
theorem flD_turn {x : PyData} {r : List PyData} (h : eqS x "turn" = true) : flD (x :: r) = r.isEmpty := by
  show (if eqS x "turn" = true then r.isEmpty else _) = _
  rw [if_pos h]
theorem flD_len {x : PyData} {r : List PyData} (h : eqS x "turn" = false) (hl : r.length ≠ 1) : flD (x :: r) = false := by
  match r, hl with
  | [], _ => show (if eqS x "turn" = true then _ else false) = _; rw [h, if_neg Bool.false_ne_true]
  | [_], hl => exact absurd rfl hl
  | _ :: _ :: _, _ => show (if eqS x "turn" = true then _ else false) = _; rw [h, if_neg Bool.false_ne_true]
theorem flD_mod {x y : PyData} (h : eqS x "turn" = false) (h2 : eqS x "mod" = true) : flD [x, y] = wDd 1 6 y := by
  show (if eqS x "turn" = true then _ else (if eqS x "mod" = true then wDd 1 6 y else _)) = _
  rw [h, if_neg Bool.false_ne_true, h2, if_pos rfl]
theorem flD_sa {x y : PyData} (h : eqS x "turn" = false) (h2 : eqS x "mod" = false) : flD [x, y] = ((PyData.eqv (.str "set") x || PyData.eqv (.str "add") x) && wDd (-20) 20 y) := by
  show (if eqS x "turn" = true then _ else (if eqS x "mod" = true then wDd 1 6 y else _)) = _
  rw [h, if_neg Bool.false_ne_true, h2, if_neg Bool.false_ne_true]
theorem Th.sq {K : PySem.W.Frag} {p : Addr} {H : Hp} {x : V} {d : PyData} {ds : List PyData} (h : Th K p H x d) (e : rowsOf d = some ds) : SqD K H x ds := SqD.of h.dp (by
  cases d <;> first | (cases e; exact .inl rfl) | (cases e; exact .inr rfl) | cases e)
theorem isSq_rows {d : PyData} : isSq d = (rowsOf d).isSome := by cases d <;> rfl
section
variable {P : Program} {w : World} {K : PySem.W.Frag} {mg : Str → Option Value} {base : Heap}
end
end My
set_option Elab.async false
set_option linter.all false
set_option maxRecDepth 100000
set_option maxHeartbeats 8000000
namespace My
open PySem PySem.Spec PyProof.Rows L2
local macro_rules | `(tactic| walk_at "lv") => `(tactic| first | exact Or.inl rfl | exact Or.inr rfl)
/-! ### things whose parts are things -/
mutual
inductive Tg (p : Addr) (H : Hp) : V → PyData → Prop
  | non : Tg p H .non .none
  | bl (b : Bool) : Tg p H (.bl b) (.bool b)
  | int (n : Int) : Tg p H (.int n) (.int n)
  | str (z : Str) (sh : SeqAt.shaped (.str z) = true) : Tg p H (.str z) (.str z)
  | lst {a : Addr} {xs : List V} {ds : List PyData} : H a = some (.lst xs) → a ≠ p → TgAll p H xs ds → SeqAt.shaped (.list ds) = true → Tg p H (.ref a) (.list ds)
  | tup {a : Addr} {xs : List V} {ds : List PyData} : H a = some (.tup xs) → a ≠ p → TgAll p H xs ds → SeqAt.shaped (.tuple ds) = true → Tg p H (.ref a) (.tuple ds)
inductive TgAll (p : Addr) (H : Hp) : List V → List PyData → Prop
  | nil : TgAll p H [] []
  | cons {x : V} {xs : List V} {d : PyData} {ds : List PyData} : Tg p H x d → TgAll p H xs ds → TgAll p H (x :: xs) (d :: ds)
end
section
variable {K : PySem.W.Frag} {p : Addr} {H H' : Hp}
mutual
theorem Tg.but (b : But p H H') : ∀ (d : PyData) (x : V), Tg p H x d → Tg p H' x d
  | .none, _, h => by cases h; exact .non
  | .bool _, _, h => by cases h; exact .bl _
  | .int _, _, h => by cases h; exact .int _
  | .str _, _, h => by cases h with | str _ sh => exact .str _ sh
  | .list ds, _, h => by cases h with | lst e ne r sh => exact .lst (b _ _ ne e) ne (TgAll.but b ds _ r) sh
  | .tuple ds, _, h => by cases h with | tup e ne r sh => exact .tup (b _ _ ne e) ne (TgAll.but b ds _ r) sh
theorem TgAll.but (b : But p H H') : ∀ (ds : List PyData) (xs : List V), TgAll p H xs ds → TgAll p H' xs ds
  | [], _, h => by cases h; exact .nil
  | d :: ds, _, h => by cases h with | cons h r => exact .cons (Tg.but b d _ h) (TgAll.but b ds _ r)
end
mutual
theorem Tg.dp : ∀ (d : PyData) (x : V), Tg p H x d → Dp K H x d
  | .none, _, h => by cases h; exact .non
  | .bool _, _, h => by cases h; exact .bl _
  | .int _, _, h => by cases h; exact .int _
  | .str _, _, h => by cases h; exact .str _
  | .list ds, _, h => by cases h with | lst e _ r _ => exact .lst (SqL.of e) (TgAll.dp ds _ r)
  | .tuple ds, _, h => by cases h with | tup e _ r _ => exact .tup (SqT.of e) (TgAll.dp ds _ r)
theorem TgAll.dp : ∀ (ds : List PyData) (xs : List V), TgAll p H xs ds → DpAll K H xs ds
  | [], _, h => by cases h; exact .nil
  | d :: ds, _, h => by cases h with | cons h r => exact .cons (Tg.dp d _ h) (TgAll.dp ds _ r)
end
theorem Tg.shaped {d : PyData} {x : V} (h : Tg p H x d) : SeqAt.shaped d = true := by
  cases h with
  | str _ sh => exact sh
  | lst _ _ _ sh => exact sh
  | tup _ _ _ sh => exact sh
  | _ => rfl
theorem TgAll.get : ∀ {xs : List V} {ds : List PyData} {i : Nat} {d : PyData}, TgAll p H xs ds → ds[i]? = some d → ∃ x, xs[i]? = some x ∧ Tg p H x d
  | _, _, 0, _, .cons h _, e => by cases e; exact ⟨_, rfl, h⟩
  | _, _, i + 1, _, .cons _ r, e => TgAll.get (i := i) r (by simpa using e)
  | _, _, _, _, .nil, hq => by simp at hq
theorem TgAll.len : ∀ {xs : List V} {ds : List PyData}, TgAll p H xs ds → xs.length = ds.length
  | _, _, .nil => rfl
  | _, _, .cons _ r => congrArg Nat.succ (TgAll.len r)
/-- a list or a tuple of things -/
theorem Tg.rows {d : PyData} {x : V} {ds : List PyData} (h : Tg p H x d) (e : rowsOf d = some ds) : ∃ a xs, x = .ref a ∧ SqA H a xs ∧ TgAll p H xs ds := by
  cases h with
  | lst e1 _ r _ => cases e; exact ⟨_, _, rfl, .inl e1, r⟩
  | tup e1 _ r _ => cases e; exact ⟨_, _, rfl, .inr e1, r⟩
  | _ => cases e
end
end My
set_option Elab.async false
set_option linter.all false
set_option maxRecDepth 100000
set_option maxHeartbeats 8000000
namespace My
open PySem PySem.Spec PyProof.Rows L2
local macro_rules | `(tactic| walk_at "lv") => `(tactic| first | exact Or.inl rfl | exact Or.inr rfl)
theorem Tg.th {K : PySem.W.Frag} {p : Addr} {H : Hp} {x : V} {d : PyData} (h : Tg p H x d) : Th K p H x d := ⟨h.shaped, fun _ b => (Tg.but b _ _ h).dp⟩
theorem Tg.same {p : Addr} {H H' : Hp} {x : V} {d : PyData} (s : Same H H') (h : Tg p H x d) : Tg p H' x d := Tg.but (But.of s) _ _ h
section
variable {P : Program} {w : World} {K : PySem.W.Frag} {mg : Str → Option Value} {base : Heap}
/-! ### fits_letter, fits_test of things -/
def spFitT (K : PySem.W.Frag) (f : PyData → Bool) : Sp := fun vs H Q _ => ∃ (p : Addr) (x : V) (d : PyData), vs = [x] ∧ Tg p H x d ∧ ∀ H', Same H H' → Q (.bl (f d)) H'
theorem kp_flT (F : At K mg "fits_letter" s_fl) (N : Nb mg) (mM : ∃ t, mg "MOST" = some (.int 20 t)) (mR : ∃ t, mg "MOST_REST" = some (.int 6 t)) (Gs : Keeps CX0 P w K mg base "is_sequence" 1 ["thing"] (spSeqT K)) (Gw : Keeps CX0 P w K mg base "is_whole_from" 2 ["thing", "low", "high"] (spWfT K)) :
    Keeps CX0 P w K mg base "fits_letter" 3 ["letter"] (spFitT K flT) := by
  refine keeps_of F sc_fl (fun _ _ _ _ _ _ us hl => match us, hl with | [_], _ => rfl) (fun vs H Q E h => ?_) (fun f cdv A outer s H vs Q E hr h => ?_)
  · obtain ⟨p, x, d, rfl, _⟩ := h
    rfl
  · obtain ⟨p, x, d, rfl, hx, k⟩ := h
    obtain ⟨tM, mM⟩ := mM
    obtain ⟨tR, mR⟩ := mR
    have h1 : Room 1 (A.deeper (envOfC "fits_letter" (defScope s_fl) s.heap.objs.size f cdv)) := hr.mono (by decide)
    have hu65 : (A.deeper (envOfC "fits_letter" (defScope s_fl) s.heap.objs.size f cdv)).units + 65 < cLine := by have := hr.un; omega
    refine ⟨_, (pss_cons (ps_if (PW.pt (pw_or (pt_not (pt_val (pe_k Gs h1 (by rfl) pass0 (pa_cons (pv 0) pa_nil)))) (pw_or1 (pt_not (pt_truth (pv 0) (by intro _; rfl)))))) (pss_one (ps_ret pe_bl)) pss_nil)
        (pss_cons (ps_if (pt_cmpR (op_eqD hr.units) (pe_ix ix_any (pv 0) pe_int (fun _ _ => rfl)) pe_str (nomark _)) (pss_one (ps_ret (pe_cmpR op_eq (pe_callB call_len_seq (by rfl) N.len (by decide +kernel) (pa_cons (pv 0) pa_nil)) pe_int (nomark _)))) pss_nil)
        (pss_cons (ps_if (pt_cmpR op_ne (pe_callB call_len_seq (by rfl) N.len (by decide +kernel) (pa_cons (pv 0) pa_nil)) pe_int (nomark _)) (pss_one (ps_ret pe_bl)) pss_nil)
        (pss_cons (ps_if (pt_cmpR (op_eqD hr.units) (pe_ix ix_any (pv 0) pe_int (fun _ _ => rfl)) pe_str (nomark _)) (pss_one (ps_ret (pe_k Gw hr (by rfl) pass0 (pa_cons (pe_ix ix_any (pv 0) pe_int (fun _ _ => rfl)) (pa_cons pe_int (pa_cons (pe_glob (v := .int 6) (by rfl) mR ⟨_, rfl⟩) pa_nil)))))) pss_nil)
        (pss_one (ps_ret (pe_and (pe_cmpR (op_inT hu65) (pe_ix ix_any (pv 0) pe_int (fun _ _ => rfl)) (pe_tup (pa_cons pe_str (pa_cons pe_str pa_nil))) (by rfl)) (pe_one (pe_k Gw hr (by rfl) pass0 (pa_cons (pe_ix ix_any (pv 0) pe_int (fun _ _ => rfl)) (pa_cons (pe_un un_neg (pe_glob (v := .int 20) (by rfl) mM ⟨_, rfl⟩)) (pa_cons (pe_glob (v := .int 20) (by rfl) mM ⟨_, rfl⟩) pa_nil)))))))))))), ?_⟩
    refine ⟨_, rfl, p, x, d, rfl, hx.th, fun H1 s1 => ⟨_, rfl, ?_⟩⟩
    rw [isSq_rows]
    have k0 : ∀ ds, rowsOf d = some ds → ∀ H', Same H H' → Q (.bl (flD ds)) H' := fun ds e H' s' => by
      have := k H' s'
      unfold flT at this
      rw [e] at this
      exact this
    have hx1 := hx.same s1
    cases er : rowsOf d with
    | none =>
      have k1 := k H1 s1
      unfold flT at k1
      rw [er] at k1
      exact iteT (iteT k1)
    | some ds =>
      have k1 := k0 ds er H1 s1
      obtain ⟨a, xs, rfl, sq, tg⟩ := hx1.rows er
      refine iteF ⟨_, rfl, _, truA sq, ?_⟩
      cases tg with
      | nil => exact iteT k1
      | @cons x0 xr e r t0 tr =>
        refine iteF ⟨_, rfl, ixA_of sq at_head ⟨e, _, t0.dp, .str _, t0.shaped, by decide +kernel, _, rfl, ?_⟩⟩
        show if eqS e "turn" = true then _ else _
        have ln := tr.len
        cases ew : eqS e "turn" with
        | true =>
          rw [flD_turn ew] at k1
          refine iteT ⟨_, rfl, a, _, rfl, lenA sq, rfl, ?_⟩
          rw [vint]
          cases tr with
          | nil => exact k1
          | cons _ _ =>
            rw [decide_eq_false (by rw [List.length_cons, List.length_cons]; omega)]
            exact k1
        | false =>
          refine iteF ⟨_, rfl, a, _, rfl, lenA sq, rfl, _, rfl, ?_⟩
          rw [vint]
          by_cases hl : r.length = 1
          · obtain ⟨y, rfl⟩ : ∃ y, r = [y] := match r, hl with | [y], _ => ⟨y, rfl⟩
            cases tr with
            | @cons y0 _ _ _ ty tn =>
            cases tn
            refine iteF ⟨_, rfl, ixA_of sq at_head ⟨e, _, t0.dp, .str _, t0.shaped, by decide +kernel, _, rfl, ?_⟩⟩
            show if eqS e "mod" = true then _ else _
            cases em : eqS e "mod" with
            | true =>
              rw [flD_mod ew em] at k1
              exact iteT ⟨_, rfl, ixA_of sq rfl ⟨y0, y, 1, 6, rfl, ty.dp, k1⟩⟩
            | false =>
              refine iteF ⟨_, rfl, ixA_of sq at_head ⟨(by show 2 ≤ sizeLine; decide), fun t ht => ?_⟩⟩
              have s2 := same_new (o := .tup [V.str "set", V.str "add"]) (Same.refl H1) ht
              have k4 := k0 _ er _ (s1.trans s2)
              rw [flD_sa ew em] at k4
              refine ⟨e, [.str "set", .str "add"], (t0.same s2).dp, .tup (SqT.of upd_same) (.cons (.str _) (.cons (.str _) .nil)), t0.shaped, by decide +kernel, _, rfl, ?_⟩
              rw [show (([.str "set", .str "add"] : List PyData).any fun z => PyData.eqv z e) = (PyData.eqv (.str "set") e || PyData.eqv (.str "add") e) from by
                show (PyData.eqv (.str "set") e || (PyData.eqv (.str "add") e || false)) = _
                rw [Bool.or_false]]
              cases eo : (PyData.eqv (.str "set") e || PyData.eqv (.str "add") e) with
              | false =>
                rw [eo] at k4
                exact iteF k4
              | true =>
                rw [eo] at k4
                exact iteT ⟨_, rfl, ixA_of (sq.same s2) rfl ⟨_, rfl, y0, y, -20, 20, rfl, (ty.same s2).dp, k4⟩⟩
          · rw [flD_len ew hl] at k1
            rw [decide_eq_false (by rw [List.length_cons]; omega)]
            exact iteT k1
end
end My
set_option Elab.async false
set_option linter.all false
set_option maxRecDepth 100000
set_option maxHeartbeats 8000000
namespace My
open PySem PySem.Spec PyProof.Rows L2
local macro_rules | `(tactic| walk_at "lv") => `(tactic| first | exact Or.inl rfl | exact Or.inr rfl)
def ftD : List PyData → Bool
  | [] => false
  | x :: r => if eqS x "rest" then (match r with
    | [y, z] => wDd 1 6 y && (match y with | .int n => wDd 0 (n - 1) z | _ => false)
    | _ => false) else match r with
    | [y] => (PyData.eqv (.str "below") x || PyData.eqv (.str "is") x) && wDd (-20) 20 y
    | _ => false
def ftT (d : PyData) : Bool := match rowsOf d with
  | some ds => ftD ds
  | none => false
theorem ftD_rest {x y z : PyData} (h : eqS x "rest" = true) : ftD [x, y, z] = (wDd 1 6 y && (match y with | .int n => wDd 0 (n - 1) z | _ => false)) := by
  show (if eqS x "rest" = true then _ else _) = _
  rw [if_pos h]
theorem ftD_restN {x : PyData} {r : List PyData} (h : eqS x "rest" = true) (hl : r.length ≠ 2) : ftD (x :: r) = false := by
  match r, hl with
  | [], _ => show (if eqS x "rest" = true then false else _) = _; rw [if_pos h]
  | [_], _ => show (if eqS x "rest" = true then false else _) = _; rw [if_pos h]
  | [_, _], hl => exact absurd rfl hl
  | _ :: _ :: _ :: _, _ => show (if eqS x "rest" = true then false else _) = _; rw [if_pos h]
theorem ftD_bi {x y : PyData} (h : eqS x "rest" = false) : ftD [x, y] = ((PyData.eqv (.str "below") x || PyData.eqv (.str "is") x) && wDd (-20) 20 y) := by
  show (if eqS x "rest" = true then _ else _) = _
  rw [h, if_neg Bool.false_ne_true]
theorem ftD_len {x : PyData} {r : List PyData} (h : eqS x "rest" = false) (hl : r.length ≠ 1) : ftD (x :: r) = false := by
  match r, hl with
  | [], _ => show (if eqS x "rest" = true then _ else false) = _; rw [h, if_neg Bool.false_ne_true]
  | [_], hl => exact absurd rfl hl
  | _ :: _ :: _, _ => show (if eqS x "rest" = true then _ else false) = _; rw [h, if_neg Bool.false_ne_true]
section
variable {P : Program} {w : World} {K : PySem.W.Frag} {mg : Str → Option Value} {base : Heap}
theorem kp_ftT (F : At K mg "fits_test" s_ft) (N : Nb mg) (mM : ∃ t, mg "MOST" = some (.int 20 t)) (mR : ∃ t, mg "MOST_REST" = some (.int 6 t)) (Gs : Keeps CX0 P w K mg base "is_sequence" 1 ["thing"] (spSeqT K)) (Gw : Keeps CX0 P w K mg base "is_whole_from" 2 ["thing", "low", "high"] (spWfT K)) :
    Keeps CX0 P w K mg base "fits_test" 3 ["test"] (spFitT K ftT) := by
  refine keeps_of F sc_ft (fun _ _ _ _ _ _ us hl => match us, hl with | [_], _ => rfl) (fun vs H Q E h => ?_) (fun f cdv A outer s H vs Q E hr h => ?_)
  · obtain ⟨p, x, d, rfl, _⟩ := h
    rfl
  · obtain ⟨p, x, d, rfl, hx, k⟩ := h
    obtain ⟨tM, mM⟩ := mM
    obtain ⟨tR, mR⟩ := mR
    have h1 : Room 1 (A.deeper (envOfC "fits_test" (defScope s_ft) s.heap.objs.size f cdv)) := hr.mono (by decide)
    have hu65 : (A.deeper (envOfC "fits_test" (defScope s_ft) s.heap.objs.size f cdv)).units + 65 < cLine := by have := hr.un; omega
    refine ⟨_, (pss_cons (ps_if (PW.pt (pw_or (pt_not (pt_val (pe_k Gs h1 (by rfl) pass0 (pa_cons (pv 0) pa_nil)))) (pw_or1 (pt_not (pt_truth (pv 0) (by intro _; rfl)))))) (pss_one (ps_ret pe_bl)) pss_nil)
        (pss_cons (ps_if (pt_cmpR (op_eqD hr.units) (pe_ix ix_any (pv 0) pe_int (fun _ _ => rfl)) pe_str (nomark _)) (pss_one (ps_ret (pe_and (pe_cmpR op_eq (pe_callB call_len_seq (by rfl) N.len (by decide +kernel) (pa_cons (pv 0) pa_nil)) pe_int (nomark _)) (pe_and (pe_k Gw hr (by rfl) pass0 (pa_cons (pe_ix ix_any (pv 0) pe_int (fun _ _ => rfl)) (pa_cons pe_int (pa_cons (pe_glob (v := .int 6) (by rfl) mR ⟨_, rfl⟩) pa_nil)))) (pe_one (pe_k Gw hr (by rfl) pass0 (pa_cons (pe_ix ix_any (pv 0) pe_int (fun _ _ => rfl)) (pa_cons pe_int (pa_cons (pe_op op_sub (pe_ix ix_any (pv 0) pe_int (fun _ _ => rfl)) pe_int) pa_nil))))))))) pss_nil)
        (pss_one (ps_ret (pe_and (pe_cmpR op_eq (pe_callB call_len_seq (by rfl) N.len (by decide +kernel) (pa_cons (pv 0) pa_nil)) pe_int (nomark _)) (pe_and (pe_cmpR (op_inT hu65) (pe_ix ix_any (pv 0) pe_int (fun _ _ => rfl)) (pe_tup (pa_cons pe_str (pa_cons pe_str pa_nil))) (by rfl)) (pe_one (pe_k Gw hr (by rfl) pass0 (pa_cons (pe_ix ix_any (pv 0) pe_int (fun _ _ => rfl)) (pa_cons (pe_un un_neg (pe_glob (v := .int 20) (by rfl) mM ⟨_, rfl⟩)) (pa_cons (pe_glob (v := .int 20) (by rfl) mM ⟨_, rfl⟩) pa_nil))))))))))), ?_⟩
    refine ⟨_, rfl, p, x, d, rfl, hx.th, fun H1 s1 => ⟨_, rfl, ?_⟩⟩
    rw [isSq_rows]
    have k0 : ∀ ds, rowsOf d = some ds → ∀ H', Same H H' → Q (.bl (ftD ds)) H' := fun ds e H' s' => by
      have := k H' s'
      unfold ftT at this
      rw [e] at this
      exact this
    have hx1 := hx.same s1
    cases er : rowsOf d with
    | none =>
      have k1 := k H1 s1
      unfold ftT at k1
      rw [er] at k1
      exact iteT (iteT k1)
    | some ds =>
      have k1 := k0 ds er H1 s1
      obtain ⟨a, xs, rfl, sq, tg⟩ := hx1.rows er
      refine iteF ⟨_, rfl, _, truA sq, ?_⟩
      cases tg with
      | nil => exact iteT k1
      | @cons x0 xr e r t0 tr =>
        refine iteF ⟨_, rfl, ixA_of sq at_head ⟨e, _, t0.dp, .str _, t0.shaped, by decide +kernel, _, rfl, ?_⟩⟩
        show if eqS e "rest" = true then _ else _
        have ln := tr.len
        cases ew : eqS e "rest" with
        | true =>
          refine iteT ⟨_, rfl, a, _, rfl, lenA sq, rfl, _, rfl, ?_⟩
          rw [vint]
          by_cases hl : r.length = 2
          · obtain ⟨y, z, rfl⟩ : ∃ y z, r = [y, z] := match r, hl with | [y, z], _ => ⟨y, z, rfl⟩
            cases tr with
            | @cons y0 _ _ _ ty tn =>
            cases tn with
            | @cons z0 _ _ _ tz tn =>
            cases tn
            rw [ftD_rest ew] at k1
            refine iteT ⟨_, rfl, ixA_of sq rfl ⟨y0, y, 1, 6, rfl, ty.dp, _, rfl, ?_⟩⟩
            cases ty with
            | int n =>
              cases ey : wDd 1 6 (.int n) with
              | false =>
                rw [ey] at k1
                exact iteF k1
              | true =>
                rw [ey] at k1
                exact iteT ⟨_, rfl, ixA_of sq rfl ⟨_, rfl, ixA_of sq rfl ⟨_, _, rfl, rfl, z0, z, 0, n - 1, rfl, tz.dp, k1⟩⟩⟩
            | non => exact iteF k1
            | bl b => exact iteF k1
            | str u _ => exact iteF k1
            | lst _ _ _ _ => exact iteF k1
            | tup _ _ _ _ => exact iteF k1
          · rw [ftD_restN ew hl] at k1
            rw [decide_eq_false (by rw [List.length_cons]; omega)]
            exact iteF k1
        | false =>
          refine iteF ⟨_, rfl, a, _, rfl, lenA sq, rfl, _, rfl, ?_⟩
          rw [vint]
          by_cases hl : r.length = 1
          · obtain ⟨y, rfl⟩ : ∃ y, r = [y] := match r, hl with | [y], _ => ⟨y, rfl⟩
            cases tr with
            | @cons y0 _ _ _ ty tn =>
            cases tn
            refine iteT ⟨_, rfl, ixA_of sq at_head ⟨(by show 2 ≤ sizeLine; decide), fun t ht => ?_⟩⟩
            have s2 := same_new (o := .tup [V.str "below", V.str "is"]) (Same.refl H1) ht
            have k4 := k0 _ er _ (s1.trans s2)
            rw [ftD_bi ew] at k4
            refine ⟨e, [.str "below", .str "is"], (t0.same s2).dp, .tup (SqT.of upd_same) (.cons (.str _) (.cons (.str _) .nil)), t0.shaped, by decide +kernel, _, rfl, ?_⟩
            rw [show (([.str "below", .str "is"] : List PyData).any fun z => PyData.eqv z e) = (PyData.eqv (.str "below") e || PyData.eqv (.str "is") e) from by
              show (PyData.eqv (.str "below") e || (PyData.eqv (.str "is") e || false)) = _
              rw [Bool.or_false]]
            cases eo : (PyData.eqv (.str "below") e || PyData.eqv (.str "is") e) with
            | false =>
              rw [eo] at k4
              exact iteF k4
            | true =>
              rw [eo] at k4
              exact iteT ⟨_, rfl, ixA_of (sq.same s2) rfl ⟨_, rfl, y0, y, -20, 20, rfl, (ty.same s2).dp, k4⟩⟩
          · rw [ftD_len ew hl] at k1
            rw [decide_eq_false (by rw [List.length_cons]; omega)]
            exact iteF k1
end
end My
set_option Elab.async false
set_option linter.all false
set_option maxRecDepth 100000
set_option maxHeartbeats 8000000
namespace My
open PySem PySem.Spec PyProof.Rows L2
local macro_rules | `(tactic| walk_at "lv") => `(tactic| first | exact Or.inl rfl | exact Or.inr rfl)
def fmD : List PyData → Bool
  | [] => false
  | x :: r => if eqS x "stay" then r.isEmpty else match r with
    | [y] => if eqS x "deed" then flT y else (PyData.eqv (.str "so") x || PyData.eqv (.str "not") x) && ftT y
    | _ => false
def fmT (d : PyData) : Bool := match rowsOf d with
  | some ds => fmD ds
  | none => false
theorem fmD_turn {x : PyData} {r : List PyData} (h : eqS x "stay" = true) : fmD (x :: r) = r.isEmpty := by
  show (if eqS x "stay" = true then r.isEmpty else _) = _
  rw [if_pos h]
theorem fmD_len {x : PyData} {r : List PyData} (h : eqS x "stay" = false) (hl : r.length ≠ 1) : fmD (x :: r) = false := by
  match r, hl with
  | [], _ => show (if eqS x "stay" = true then _ else false) = _; rw [h, if_neg Bool.false_ne_true]
  | [_], hl => exact absurd rfl hl
  | _ :: _ :: _, _ => show (if eqS x "stay" = true then _ else false) = _; rw [h, if_neg Bool.false_ne_true]
theorem fmD_mod {x y : PyData} (h : eqS x "stay" = false) (h2 : eqS x "deed" = true) : fmD [x, y] = flT y := by
  show (if eqS x "stay" = true then _ else (if eqS x "deed" = true then flT y else _)) = _
  rw [h, if_neg Bool.false_ne_true, h2, if_pos rfl]
theorem fmD_sa {x y : PyData} (h : eqS x "stay" = false) (h2 : eqS x "deed" = false) : fmD [x, y] = ((PyData.eqv (.str "so") x || PyData.eqv (.str "not") x) && ftT y) := by
  show (if eqS x "stay" = true then _ else (if eqS x "deed" = true then flT y else _)) = _
  rw [h, if_neg Bool.false_ne_true, h2, if_neg Bool.false_ne_true]
section
variable {P : Program} {w : World} {K : PySem.W.Frag} {mg : Str → Option Value} {base : Heap}
/-! ### fits_move -/
abbrev s_fm : Stmt := top 22
abbrev N_fm : List Str := ["move"]
theorem sc_fm : FnScope N_fm ["move"] (defScope s_fm) := ⟨rfl, rfl, rfl, by decide +kernel, rfl, by decide +kernel, by decide +kernel⟩
theorem kp_fm (F : At K mg "fits_move" s_fm) (N : Nb mg) (Gs : Keeps CX0 P w K mg base "is_sequence" 1 ["thing"] (spSeqT K)) (Gl_ : Keeps CX0 P w K mg base "fits_letter" 3 ["letter"] (spFitT K flT)) (Gt : Keeps CX0 P w K mg base "fits_test" 3 ["test"] (spFitT K ftT)) :
    Keeps CX0 P w K mg base "fits_move" 4 ["move"] (spFitT K fmT) := by
  refine keeps_of F sc_fm (fun _ _ _ _ _ _ us hl => match us, hl with | [_], _ => rfl) (fun vs H Q E h => ?_) (fun f cdv A outer s H vs Q E hr h => ?_)
  · obtain ⟨p, x, d, rfl, _⟩ := h
    rfl
  · obtain ⟨p, x, d, rfl, hx, k⟩ := h
    have h1 : Room 1 (A.deeper (envOfC "fits_move" (defScope s_fm) s.heap.objs.size f cdv)) := hr.mono (by decide)
    have hu65 : (A.deeper (envOfC "fits_move" (defScope s_fm) s.heap.objs.size f cdv)).units + 65 < cLine := by have := hr.un; omega
    refine ⟨_, (pss_cons (ps_if (PW.pt (pw_or (pt_not (pt_val (pe_k Gs h1 (by rfl) pass0 (pa_cons (pv 0) pa_nil)))) (pw_or1 (pt_not (pt_truth (pv 0) (by intro _; rfl)))))) (pss_one (ps_ret pe_bl)) pss_nil)
        (pss_cons (ps_if (pt_cmpR (op_eqD hr.units) (pe_ix ix_any (pv 0) pe_int (fun _ _ => rfl)) pe_str (nomark _)) (pss_one (ps_ret (pe_cmpR op_eq (pe_callB call_len_seq (by rfl) N.len (by decide +kernel) (pa_cons (pv 0) pa_nil)) pe_int (nomark _)))) pss_nil)
        (pss_cons (ps_if (pt_cmpR op_ne (pe_callB call_len_seq (by rfl) N.len (by decide +kernel) (pa_cons (pv 0) pa_nil)) pe_int (nomark _)) (pss_one (ps_ret pe_bl)) pss_nil)
        (pss_cons (ps_if (pt_cmpR (op_eqD hr.units) (pe_ix ix_any (pv 0) pe_int (fun _ _ => rfl)) pe_str (nomark _)) (pss_one (ps_ret (pe_k Gl_ hr (by rfl) pass0 (pa_cons (pe_ix ix_any (pv 0) pe_int (fun _ _ => rfl)) pa_nil)))) pss_nil)
        (pss_one (ps_ret (pe_and (pe_cmpR (op_inT hu65) (pe_ix ix_any (pv 0) pe_int (fun _ _ => rfl)) (pe_tup (pa_cons pe_str (pa_cons pe_str pa_nil))) (by rfl)) (pe_one (pe_k Gt hr (by rfl) pass0 (pa_cons (pe_ix ix_any (pv 0) pe_int (fun _ _ => rfl)) pa_nil)))))))))), ?_⟩
    refine ⟨_, rfl, p, x, d, rfl, hx.th, fun H1 s1 => ⟨_, rfl, ?_⟩⟩
    rw [isSq_rows]
    have k0 : ∀ ds, rowsOf d = some ds → ∀ H', Same H H' → Q (.bl (fmD ds)) H' := fun ds e H' s' => by
      have := k H' s'
      unfold fmT at this
      rw [e] at this
      exact this
    have hx1 := hx.same s1
    cases er : rowsOf d with
    | none =>
      have k1 := k H1 s1
      unfold fmT at k1
      rw [er] at k1
      exact iteT (iteT k1)
    | some ds =>
      have k1 := k0 ds er H1 s1
      obtain ⟨a, xs, rfl, sq, tg⟩ := hx1.rows er
      refine iteF ⟨_, rfl, _, truA sq, ?_⟩
      cases tg with
      | nil => exact iteT k1
      | @cons x0 xr e r t0 tr =>
        refine iteF ⟨_, rfl, ixA_of sq at_head ⟨e, _, t0.dp, .str _, t0.shaped, by decide +kernel, _, rfl, ?_⟩⟩
        show if eqS e "stay" = true then _ else _
        have ln := tr.len
        cases ew : eqS e "stay" with
        | true =>
          rw [fmD_turn ew] at k1
          refine iteT ⟨_, rfl, a, _, rfl, lenA sq, rfl, ?_⟩
          rw [vint]
          cases tr with
          | nil => exact k1
          | cons _ _ =>
            rw [decide_eq_false (by rw [List.length_cons, List.length_cons]; omega)]
            exact k1
        | false =>
          refine iteF ⟨_, rfl, a, _, rfl, lenA sq, rfl, _, rfl, ?_⟩
          rw [vint]
          by_cases hl : r.length = 1
          · obtain ⟨y, rfl⟩ : ∃ y, r = [y] := match r, hl with | [y], _ => ⟨y, rfl⟩
            cases tr with
            | @cons y0 _ _ _ ty tn =>
            cases tn
            refine iteF ⟨_, rfl, ixA_of sq at_head ⟨e, _, t0.dp, .str _, t0.shaped, by decide +kernel, _, rfl, ?_⟩⟩
            show if eqS e "deed" = true then _ else _
            cases em : eqS e "deed" with
            | true =>
              have k0' : ∀ H2, Same H1 H2 → Q (.bl (flT y)) H2 := fun H2 s2 => by
                have := k0 _ er H2 (s1.trans s2)
                rw [fmD_mod ew em] at this
                exact this
              exact iteT ⟨_, rfl, ixA_of sq rfl ⟨p, y0, y, rfl, ty, fun H2 s2 => k0' H2 s2⟩⟩
            | false =>
              refine iteF ⟨_, rfl, ixA_of sq at_head ⟨(by show 2 ≤ sizeLine; decide), fun t ht => ?_⟩⟩
              have s2 := same_new (o := .tup [V.str "so", V.str "not"]) (Same.refl H1) ht
              have k4 := k0 _ er _ (s1.trans s2)
              rw [fmD_sa ew em] at k4
              refine ⟨e, [.str "so", .str "not"], (t0.same s2).dp, .tup (SqT.of upd_same) (.cons (.str _) (.cons (.str _) .nil)), t0.shaped, by decide +kernel, _, rfl, ?_⟩
              rw [show (([.str "so", .str "not"] : List PyData).any fun z => PyData.eqv z e) = (PyData.eqv (.str "so") e || PyData.eqv (.str "not") e) from by
                show (PyData.eqv (.str "so") e || (PyData.eqv (.str "not") e || false)) = _
                rw [Bool.or_false]]
              cases eo : (PyData.eqv (.str "so") e || PyData.eqv (.str "not") e) with
              | false =>
                rw [eo] at k4
                exact iteF k4
              | true =>
                rw [eo] at k4
                exact iteT ⟨_, rfl, ixA_of (sq.same s2) rfl ⟨p, y0, y, rfl, ty.same s2, fun H2 s3 => by
                  have := k0 _ er H2 ((s1.trans s2).trans s3)
                  rw [fmD_sa ew em, eo] at this
                  exact this⟩⟩
          · rw [fmD_len ew hl] at k1
            rw [decide_eq_false (by rw [List.length_cons]; omega)]
            exact iteT k1
end
end My
set_option Elab.async false
set_option linter.all false
set_option maxRecDepth 100000
set_option maxHeartbeats 8000000
namespace My
open PySem PySem.Spec PyProof.Rows L2
local macro_rules | `(tactic| walk_at "lv") => `(tactic| first | exact Or.inl rfl | exact Or.inr rfl)
/-! ### dicts whose keys are tuples of any depth -/
mutual
inductive Nk (H : Hp) : V → NestedKey → Prop
  | non : Nk H .non .none
  | bl (b : Bool) : Nk H (.bl b) (.num (if b = true then 1 else 0))
  | int (n : Int) : Nk H (.int n) (.num n)
  | str (z : Str) : Nk H (.str z) (.text z)
  | tup {a : Addr} {xs : List V} {ks : List NestedKey} : H a = some (.tup xs) → NkAll H xs ks → Nk H (.ref a) (.tup ks)
inductive NkAll (H : Hp) : List V → List NestedKey → Prop
  | nil : NkAll H [] []
  | cons {x : V} {k : NestedKey} {xs : List V} {ks : List NestedKey} : Nk H x k → NkAll H xs ks → NkAll H (x :: xs) (k :: ks)
end
section
variable {P : Program} {w : World} {H H' : Hp} {h : Heap}
mutual
theorem Nk.mono (s : ∀ a xs, H a = some (.tup xs) → H' a = some (.tup xs)) : ∀ (k : NestedKey) (x : V), Nk H x k → Nk H' x k
  | .none, _, n => by cases n; exact .non
  | .num _, _, n => by cases n with
    | bl b => exact .bl b
    | int n => exact .int _
  | .text _, _, n => by cases n; exact .str _
  | .tup ks, _, n => by cases n with | tup e r => exact .tup (s _ _ e) (NkAll.mono s ks _ r)
theorem NkAll.mono (s : ∀ a xs, H a = some (.tup xs) → H' a = some (.tup xs)) : ∀ (ks : List NestedKey) (xs : List V), NkAll H xs ks → NkAll H' xs ks
  | [], _, n => by cases n; exact .nil
  | k :: ks, _, n => by cases n with | cons e r => exact .cons (Nk.mono s k _ e) (NkAll.mono s ks _ r)
end
mutual
theorem Nk.is (ok : HOk P w H h) : ∀ (k : NestedKey) (x : V) (v : Value), Nk H x k → RelV x v → NestedIs h k v
  | .none, _, _, n, r => by
    cases n
    cases r
    exact NestedIs.none
  | .num _, _, _, n, r => by
    cases n with
    | bl b => cases r; exact NestedIs.bool rfl
    | int n => obtain ⟨t, rfl⟩ := r; exact NestedIs.int _ t
  | .text _, _, _, n, r => by
    cases n
    obtain ⟨t, rfl⟩ := r
    exact NestedIs.text _ t
  | .tup ks, _, _, n, r => by
    cases n with
    | tup e a =>
      cases r
      obtain ⟨_, its, rv, ob, e1, c, n1, d1⟩ := ok _ _ e
      exact NestedIs.tup e1 c d1 (NkAll.is ok ks _ _ a (by simpa using rv))
theorem NkAll.is (ok : HOk P w H h) : ∀ (ks : List NestedKey) (xs : List V) (vs : List Value), NkAll H xs ks → Vals xs vs → NestedAll h ks vs
  | [], _, _, n, r => by cases n; cases r; exact .nil
  | k :: ks, _, _, n, r => by
    cases n with
    | cons e a =>
      cases r with
      | cons r1 r2 => exact .cons (Nk.is ok k _ _ e r1) (NkAll.is ok ks _ _ a r2)
end
end
def nkHas (kvs : List (NestedKey × V)) (k : NestedKey) : Bool := kvs.any fun x => decide (x.1 = k)
def nkGet (kvs : List (NestedKey × V)) (k : NestedKey) : Option V := (kvs.find? fun x => decide (x.1 = k)).map (·.2)
def nkPut (kvs : List (NestedKey × V)) (k : NestedKey) (v : V) : List (NestedKey × V) := if nkHas kvs k = true then kvs.map (fun x => if x.1 = k then (x.1, v) else x) else kvs ++ [(k, v)]
abbrev NE := NestedKey × Addr × V
def neHas (xs : List NE) (k : NestedKey) : Bool := xs.any fun x => decide (x.1 = k)
def nePut (xs : List NE) (k : NestedKey) (t : Addr) (v : V) : List NE := if neHas xs k = true then xs.map (fun x => if x.1 = k then (x.1, x.2.1, v) else x) else xs ++ [(k, t, v)]
def NRel : NE → NestedKey × Addr × Value → Prop := fun p q => p.1 = q.1 ∧ p.2.1 = q.2.1 ∧ RelV p.2.2 q.2.2
/-- the object: a dict of these entries -/
def rawN (P : Program) (w : World) (a : Addr) (xs : List NE) : Heap → Prop := fun h => xs.length ≤ sizeLine ∧ (a == sysModules) = false ∧ ∃ us, Paired NRel xs us ∧ ∃ o es ep, h.get? a = some o ∧ o.ExactDict ∧ o.data = .dict es ep ∧ es.toList = us.map (entryOfKey (nestedKind P w)) ∧ (us.map (·.1)).Nodup
/-- at a stands a dict with the keys and values kvs -/
def DN (P : Program) (w : World) (H : Hp) (a : Addr) (kvs : List (NestedKey × V)) : Prop := (kvs = [] ∧ H a = some (.dK [])) ∨ ∃ xs : List NE, kvs = xs.map (fun x => (x.1, x.2.2)) ∧ H a = some (.ext (rawN P w a xs)) ∧ ∀ x ∈ xs, Nk H (.ref x.2.1) x.1 ∧ x.1.depth ≤ 8
section
variable {P : Program} {w : World} {H H' : Hp} {h : Heap} {a : Addr} {kvs : List (NestedKey × V)}
theorem DN.mono (s : ∀ b xs, H b = some (.tup xs) → H' b = some (.tup xs)) (e : ∀ o, H a = some o → H' a = some o) (d : DN P w H a kvs) : DN P w H' a kvs := by
  rcases d with ⟨rfl, d⟩ | ⟨xs, rfl, d, n⟩
  · exact .inl ⟨rfl, e _ d⟩
  · exact .inr ⟨xs, rfl, e _ d, fun x hx => ⟨Nk.mono s _ _ (n x hx).1, (n x hx).2⟩⟩
theorem DN.same (s : Same H H') (d : DN P w H a kvs) : DN P w H' a kvs := d.mono (fun b xs e => s b _ e) fun o e => s a o e
theorem DN.mut (d : DN P w H a kvs) : Mut (H a) := by
  rcases d with ⟨_, d⟩ | ⟨_, _, d, _⟩
  · rw [d]; trivial
  · rw [d]; trivial
theorem paired_map {α β γ : Type} {F : α → γ → Prop} {G : β → γ → Prop} (f : α → β) (hf : ∀ a c, F a c → G (f a) c) : ∀ {l : List α} {m : List γ}, Paired F l m → Paired G (l.map f) m
  | _, _, .nil => .nil
  | _, _, .cons r t => .cons (hf _ _ r) (paired_map f hf t)
theorem paired_mem {α β : Type} {F : α → β → Prop} : ∀ {l : List α} {m : List β}, Paired F l m → ∀ b ∈ m, ∃ a ∈ l, F a b
  | _, _, .nil, b, hb => by simp at hb
  | _, _, .cons (a := a) r t, b, hb => by
    rcases List.mem_cons.1 hb with rfl | hb
    · exact ⟨a, List.mem_cons_self, r⟩
    · obtain ⟨a', h1, h2⟩ := paired_mem t b hb
      exact ⟨a', List.mem_cons_of_mem _ h1, h2⟩
/-- as the library tells it -/
theorem DN.dict (ok : HOk P w H h) (d : DN P w H a kvs) : (a == sysModules) = false ∧ ∃ xs us, kvs = xs.map (fun x : NE => (x.1, x.2.2)) ∧ xs.length ≤ sizeLine ∧ Paired NRel xs us ∧ (∀ x ∈ xs, Nk H (.ref x.2.1) x.1 ∧ x.1.depth ≤ 8) ∧ h.DictOfH (nestedKind P w) a us := by
  rcases d with ⟨rfl, d⟩ | ⟨xs, rfl, d, n⟩
  · obtain ⟨z, hd, vs, rel, o, es, ep, e1, e2, e3, e4⟩ := ok _ _ d
    cases rel
    refine ⟨hd, [], [], rfl, Nat.zero_le _, .nil, fun x hx => by simp at hx, o, es, ep, e1, e2, e3, ?_, fun x hx => by simp at hx, List.nodup_nil⟩
    have q : ∀ {l : List DictEntry}, Pairs (mixKind P w) l [] → l = [] := fun z => by cases z; rfl
    exact q e4.2.1
  · obtain ⟨⟨hl, hd, us, pr, o, es, ep, e1, e2, e3, e4, e5⟩, _⟩ := ok _ _ d
    refine ⟨hd, xs, us, rfl, hl, pr, n, o, es, ep, e1, e2, e3, e4, fun u hu => ?_, e5⟩
    obtain ⟨x, hx, r1, r2, _⟩ := paired_mem pr u hu
    obtain ⟨n1, n2⟩ := n x hx
    rw [r1, r2] at n1
    rw [r1] at n2
    exact ⟨Nk.is ok _ _ _ n1 rfl, n2⟩
end
section
variable {xs : List NE} {us : List (NestedKey × Addr × Value)} {k : NestedKey} {t : Addr} {v : V} {u : Value}
theorem neHas_eq : ∀ {xs : List NE} {us : List (NestedKey × Addr × Value)}, Paired NRel xs us → neHas xs k = (atKey us k).isSome
  | _, _, .nil => rfl
  | _, _, @Paired.cons _ _ _ a b l m r p => by
    have ih := neHas_eq p
    unfold neHas atKey at ih ⊢
    rw [List.any_cons, List.find?_cons]
    rw [← r.1]
    by_cases e : a.1 = k
    · rw [decide_eq_true e]; rfl
    · rw [decide_eq_false e, Bool.false_or]; exact ih
theorem nePut_rel (p : Paired NRel xs us) (rv : RelV v u) : Paired NRel (nePut xs k t v) (storedH us k t u) := by
  unfold nePut storedH
  rw [neHas_eq p]
  by_cases e : (atKey us k).isSome = true
  · rw [if_pos e, if_pos e]
    clear e
    induction p with
    | nil => exact .nil
    | cons r p ih =>
      refine .cons ?_ ih
      rename_i a b _ _
      obtain ⟨r1, r2, r3⟩ := r
      unfold putAt
      dsimp only
      by_cases e : a.1 = k
      · rw [if_pos e, if_pos (r1 ▸ e)]
        exact ⟨r1, r2, rv⟩
      · rw [if_neg e, if_neg (fun z => e (r1.trans z))]
        exact ⟨r1, r2, r3⟩
  · rw [if_neg e, if_neg e]
    exact p.snoc ⟨rfl, rfl, rv⟩
theorem nePut_kvs : (nePut xs k t v).map (fun x : NE => (x.1, x.2.2)) = nkPut (xs.map fun x : NE => (x.1, x.2.2)) k v := by
  have e : nkHas (xs.map fun x : NE => (x.1, x.2.2)) k = neHas xs k := by
    unfold nkHas neHas
    rw [List.any_map]
    rfl
  unfold nePut nkPut
  rw [e]
  by_cases h : neHas xs k = true
  · rw [if_pos h, if_pos h, List.map_map, List.map_map]
    refine List.map_congr_left fun x _ => (?_)
    show (fun x : NE => (x.1, x.2.2)) (if x.1 = k then (x.1, x.2.1, v) else x) = (fun x : NestedKey × V => if x.1 = k then (x.1, v) else x) (x.1, x.2.2)
    by_cases hx : x.1 = k
    · simp only [if_pos hx]
    · simp only [if_neg hx]
  · rw [if_neg h, if_neg h, List.map_append]
    rfl
theorem nePut_len : (nePut xs k t v).length ≤ xs.length + 1 := by
  unfold nePut
  split
  · rw [List.length_map]; omega
  · rw [List.length_append]; exact Nat.le_refl _
theorem nePut_mem {x : NE} (h : x ∈ nePut xs k t v) : (∃ y ∈ xs, x.1 = y.1 ∧ x.2.1 = y.2.1) ∨ (x.1 = k ∧ x.2.1 = t) := by
  unfold nePut at h
  split at h
  · obtain ⟨y, hy, rfl⟩ := List.mem_map.1 h
    refine .inl ⟨y, hy, ?_⟩
    split <;> exact ⟨rfl, rfl⟩
  · rcases List.mem_append.1 h with h | h
    · exact .inl ⟨x, h, rfl, rfl⟩
    · obtain rfl := List.mem_singleton.mp h
      exact .inr ⟨rfl, rfl⟩
end
section
variable {X : L2.Cx}
theorem nkHas_ne {xs : List NE} {k : NestedKey} : nkHas (xs.map fun x : NE => (x.1, x.2.2)) k = neHas xs k := by
  unfold nkHas neHas
  rw [List.any_map]
  rfl
/-- k in d, k not in d -/
def rInN (P : Program) (w : World) (neg : Bool) : R2 := fun x y H Q => ∃ (a t : Addr) (kvs : List (NestedKey × V)) (k : NestedKey), x = .ref t ∧ y = .ref a ∧ DN P w H a kvs ∧ Nk H (.ref t) k ∧ k.depth ≤ 8 ∧ Q (.bl (if neg = true then !nkHas kvs k else nkHas kvs k)) H
theorem op_ninN (hu : X.A.units + 9 < cLine) : OpR X (compareOp .NotIn) (rInN X.prog X.w true) := by
  rintro pins s σ H x y v u Q I rx ry h
  obtain ⟨a, t, kvs, k, rfl, rfl, d, n, n8, q⟩ := h
  cases rx
  cases ry
  obtain ⟨hd, xs, us, rfl, _, p, _, dd⟩ := d.dict I.hok
  have hk : (nestedKind X.prog X.w).is s.heap k t := ⟨Nk.is I.hok _ _ _ n rfl, n8⟩
  show wpAny _ _ (do return Value.bool (!(← contains (.ref a) (.ref t)))) _ _ s
  refine wpAny_bind (wpAny_contains_heap (knd := nestedKind X.prog X.w) (show X.A.in1.units + 8 < cLine by show X.A.units + 1 + 8 < cLine; omega) hk hd dd (wpAny_pure ⟨.bl _, H, I.tok _, rfl, ?_⟩))
  rw [← neHas_eq p, ← nkHas_ne]
  exact q
theorem op_inN (hu : X.A.units + 9 < cLine) : OpR X (compareOp .In) (rInN X.prog X.w false) := by
  rintro pins s σ H x y v u Q I rx ry h
  obtain ⟨a, t, kvs, k, rfl, rfl, d, n, n8, q⟩ := h
  cases rx
  cases ry
  obtain ⟨hd, xs, us, rfl, _, p, _, dd⟩ := d.dict I.hok
  have hk : (nestedKind X.prog X.w).is s.heap k t := ⟨Nk.is I.hok _ _ _ n rfl, n8⟩
  refine wpAny_in_heap (knd := nestedKind X.prog X.w) (show X.A.in1.units + 8 < cLine by show X.A.units + 1 + 8 < cLine; omega) hk hd dd ⟨.bl _, H, I.tok _, rfl, ?_⟩
  rw [← neHas_eq p, ← nkHas_ne]
  exact q
/-- d[k] = v -/
def rSetN (P : Program) (w : World) : V → V → V → Hp → (Hp → Prop) → Prop := fun o i v H Q => ∃ (a t : Addr) (kvs : List (NestedKey × V)) (k : NestedKey), o = .ref a ∧ i = .ref t ∧ DN P w H a kvs ∧ Nk H (.ref t) k ∧ k.depth ≤ 8 ∧ kvs.length < sizeLine ∧
  ∀ H', (∀ b, b ≠ a → H' b = H b) → DN P w H' a (nkPut kvs k v) → Q H'
theorem set_N (hu : X.A.units + 9 < cLine) : PSet X (rSetN X.prog X.w) := by
  rintro pins s σ H o i v ov iv u Q I ro ri rv h
  obtain ⟨a, t, kvs, k, rfl, rfl, d, n, n8, hl, q⟩ := h
  cases ro
  cases ri
  obtain ⟨hd, xs, us, rfl, hl2, p, ns, dd⟩ := d.dict I.hok
  have hk : (nestedKind X.prog X.w).is s.heap k t := ⟨Nk.is I.hok _ _ _ n rfl, n8⟩
  have hz : us.length ≤ sizeLine := by rw [← p.length]; exact hl2
  refine wpAny_setItem_heap (knd := nestedKind X.prog X.w) (hsz := hz) (show X.A.in1.units + 8 < cLine by show X.A.units + 1 + 8 < cLine; omega) hk dd fun h' dd' hs => ?_
  obtain ⟨ob, es, ep, h1, h2, h3, h4, _, h5⟩ := dd'
  have p' := nePut_rel (k := k) (t := t) p rv
  have hl3 : (nePut xs k t v).length ≤ sizeLine := by
    rw [List.length_map] at hl
    have := nePut_len (xs := xs) (k := k) (t := t) (v := v)
    omega
  have na : ∀ (b : Addr) (ys : List V), H b = some (.tup ys) → b ≠ a := fun b ys e z => by
    have m := d.mut
    rw [← z, e] at m
    exact m
  refine ⟨upd H a (.ext (rawN X.prog X.w a (nePut xs k t v))), ?_, q _ (fun b hb => upd_ne hb) (.inr ⟨nePut xs k t v, nePut_kvs.symm, upd_same, fun x hx => ?_⟩)⟩
  · refine L2.d_write I d.mut hs ⟨ob, h1⟩ ?_
    refine ⟨⟨hl3, hd, _, p', ob, es, ep, h1, h2, h3, h4, h5⟩, ⟨ob, h1⟩, ?_⟩
    rintro g1 g2 ⟨z1, z2, us2, z3, o2, es2, ep2, y1, y2⟩ st
    exact ⟨z1, z2, us2, z3, o2, es2, ep2, st _ y1, y2⟩
  · have st : ∀ (b : Addr) (ys : List V), H b = some (.tup ys) → upd H a (.ext (rawN X.prog X.w a (nePut xs k t v))) b = some (.tup ys) := fun b ys e => by
      rw [upd_ne (na b ys e)]
      exact e
    rcases nePut_mem hx with ⟨y, hy, e1, e2⟩ | ⟨e1, e2⟩
    · rw [e1, e2]
      exact ⟨Nk.mono st _ _ (ns y hy).1, (ns y hy).2⟩
    · rw [e1, e2]
      exact ⟨Nk.mono st _ _ n, n8⟩
/-- d[k], there -/
def rIxN (P : Program) (w : World) : R2 := fun x y H Q => ∃ (a t : Addr) (kvs : List (NestedKey × V)) (k : NestedKey) (v : V), x = .ref a ∧ y = .ref t ∧ DN P w H a kvs ∧ Nk H (.ref t) k ∧ k.depth ≤ 8 ∧ nkGet kvs k = some v ∧ Q v H
end
end My
set_option Elab.async false
set_option linter.all false
set_option maxRecDepth 100000
set_option maxHeartbeats 8000000
namespace My
open PySem PySem.Spec PyProof.Rows L2
local macro_rules | `(tactic| walk_at "lv") => `(tactic| first | exact Or.inl rfl | exact Or.inr rfl)
/-! ### moves, starts, arrows as data -/
inductive Mv where
  | stay
  | deed (L : Lt)
  | so (T : Ts)
  | not (T : Ts)
def Lt.ds : Lt → List PyData
  | .set v => [.str "set", .int v]
  | .add v => [.str "add", .int v]
  | .turn => [.str "turn"]
  | .mod m => [.str "mod", .int m]
def Ts.ds : Ts → List PyData
  | .below v => [.str "below", .int v]
  | .is v => [.str "is", .int v]
  | .rest m r => [.str "rest", .int m, .int r]
def Lt.d (L : Lt) : PyData := .tuple L.ds
def Ts.d (T : Ts) : PyData := .tuple T.ds
def Mv.ds : Mv → List PyData
  | .stay => [.str "stay"]
  | .deed L => [.str "deed", L.d]
  | .so T => [.str "so", T.d]
  | .not T => [.str "not", T.d]
def Mv.d (m : Mv) : PyData := .tuple m.ds
def Mv.Ok : Mv → Prop
  | .stay => True
  | .deed L => L.Ok
  | .so T => T.Ok
  | .not T => T.Ok
structure Ar where
  o : Int
  m : Mv
  t : Int
def Ar.d (r : Ar) : PyData := .tuple [.int r.o, r.m.d, .int r.t]
def stD (s : Int × Int) : PyData := .tuple [.int s.1, .int s.2]
def startsD (ss : List (Int × Int)) : PyData := .tuple (ss.map stD)
def arrowsD (rs : List Ar) : PyData := .tuple (rs.map Ar.d)
/-! ### read off things -/
def rowsN (d : PyData) : List PyData := (rowsOf d).getD []
def ltOf (d : PyData) : Lt := match rowsN d with
  | [.str z, .int v] => if z = "set" then .set v else if z = "add" then .add v else .mod v.toNat
  | _ => .turn
def tsOf (d : PyData) : Ts := match rowsN d with
  | [.str z, .int v] => if z = "below" then .below v else .is v
  | [.str _, .int m, .int r] => .rest m.toNat r
  | _ => .is 0
def mvOf (d : PyData) : Mv := match rowsN d with
  | [.str z, e] => if z = "deed" then .deed (ltOf e) else if z = "so" then .so (tsOf e) else .not (tsOf e)
  | _ => .stay
def arOf (d : PyData) : Ar := match rowsN d with
  | [.int o, e, .int t] => ⟨o, mvOf e, t⟩
  | _ => ⟨0, .stay, 0⟩
def stOf (d : PyData) : Int × Int := match rowsN d with
  | [.int a, .int b] => (a, b)
  | _ => (0, 0)
def MvT : Mv → PyData → Prop
  | .stay, d => rowsOf d = some [.str "stay"]
  | .deed L, d => ∃ e, rowsOf d = some [.str "deed", e] ∧ rowsOf e = some L.ds
  | .so T, d => ∃ e, rowsOf d = some [.str "so", e] ∧ rowsOf e = some T.ds
  | .not T, d => ∃ e, rowsOf d = some [.str "not", e] ∧ rowsOf e = some T.ds
def ArT (r : Ar) (d : PyData) : Prop := ∃ e, rowsOf d = some [.int r.o, e, .int r.t] ∧ MvT r.m e
def StT (s : Int × Int) (d : PyData) : Prop := rowsOf d = some [.int s.1, .int s.2]
theorem eqS_eq {d : PyData} {z : Str} (h : eqS d z = true) : d = .str z := by
  unfold eqS at h
  cases d <;> simp [PyData.eqv] at h
  rw [h]
theorem eqS_eq' {d : PyData} {z : Str} (h : PyData.eqv (.str z) d = true) : d = .str z := by
  cases d <;> simp [PyData.eqv] at h
  rw [h]
theorem eqS_self (z : Str) : eqS (.str z) z = true := by
  unfold eqS
  simp [PyData.eqv]
theorem eqS_self' (z : Str) : PyData.eqv (.str z) (.str z) = true := by simp [PyData.eqv]
theorem eqS_ne {z y : Str} (h : z ≠ y) : eqS (.str z) y = false := by
  unfold eqS
  simp [PyData.eqv, h]
theorem wDd_ok {lo hi : Int} {d : PyData} (h : wDd lo hi d = true) : ∃ n, d = .int n ∧ lo ≤ n ∧ n ≤ hi := by
  cases d <;> simp [wDd] at h
  exact ⟨_, rfl, h.1, h.2⟩
theorem wDd_int {lo hi n : Int} (h : lo ≤ n ∧ n ≤ hi) : wDd lo hi (.int n) = true := by simp [wDd, h]
theorem flT_ok {d : PyData} (h : flT d = true) : (ltOf d).Ok ∧ rowsOf d = some (ltOf d).ds := by
  unfold flT at h
  cases er : rowsOf d with
  | none => rw [er] at h; exact Bool.noConfusion h
  | some ds =>
    rw [er] at h
    have e0 : rowsN d = ds := by unfold rowsN; rw [er]; rfl
    unfold ltOf
    rw [e0]
    cases ds with
    | nil => exact Bool.noConfusion h
    | cons x r =>
      cases ew : eqS x "turn" with
      | true =>
        have h : flD (x :: r) = true := h
        rw [flD_turn ew] at h
        cases r with
        | nil =>
          rw [eqS_eq ew]
          exact ⟨trivial, rfl⟩
        | cons y t => exact Bool.noConfusion h
      | false =>
        by_cases hl : r.length = 1
        · obtain ⟨y, rfl⟩ : ∃ y, r = [y] := match r, hl with | [y], _ => ⟨y, rfl⟩
          have h : flD [x, y] = true := h
          cases em : eqS x "mod" with
          | true =>
            rw [flD_mod ew em] at h
            obtain ⟨n, rfl, h1, h2⟩ := wDd_ok h
            rw [eqS_eq em]
            have e1 : ((n.toNat : Nat) : Int) = n := by omega
            refine ⟨(show 1 ≤ n.toNat ∧ n.toNat ≤ 6 by omega), ?_⟩
            show some [PyData.str "mod", .int n] = some [.str "mod", .int (n.toNat : Int)]
            rw [e1]
          | false =>
            rw [flD_sa ew em] at h
            obtain ⟨h0, h3⟩ := and_ok h
            obtain ⟨n, rfl, h1, h2⟩ := wDd_ok h3
            rcases Bool.or_eq_true_iff.mp h0 with h0 | h0
            · rw [eqS_eq' h0]
              exact ⟨⟨h1, h2⟩, rfl⟩
            · rw [eqS_eq' h0]
              exact ⟨⟨h1, h2⟩, rfl⟩
        · have h : flD (x :: r) = true := h
          rw [flD_len ew hl] at h
          exact Bool.noConfusion h
theorem ftT_ok {d : PyData} (h : ftT d = true) : (tsOf d).Ok ∧ rowsOf d = some (tsOf d).ds := by
  unfold ftT at h
  cases er : rowsOf d with
  | none => rw [er] at h; exact Bool.noConfusion h
  | some ds =>
    rw [er] at h
    have e0 : rowsN d = ds := by unfold rowsN; rw [er]; rfl
    unfold tsOf
    rw [e0]
    cases ds with
    | nil => exact Bool.noConfusion h
    | cons x r =>
      have h : ftD (x :: r) = true := h
      cases ew : eqS x "rest" with
      | true =>
        by_cases hl : r.length = 2
        · obtain ⟨y, z, rfl⟩ : ∃ y z, r = [y, z] := match r, hl with | [y, z], _ => ⟨y, z, rfl⟩
          rw [ftD_rest ew] at h
          obtain ⟨h0, h3⟩ := and_ok h
          obtain ⟨n, rfl, h1, h2⟩ := wDd_ok h0
          obtain ⟨q, rfl, h4, h5⟩ := wDd_ok (show wDd 0 (n - 1) z = true from h3)
          rw [eqS_eq ew]
          have e1 : ((n.toNat : Nat) : Int) = n := by omega
          refine ⟨(show (1 ≤ n.toNat ∧ n.toNat ≤ 6) ∧ 0 ≤ q ∧ q < (n.toNat : Int) by omega), ?_⟩
          show some [PyData.str "rest", .int n, .int q] = some [.str "rest", .int (n.toNat : Int), .int q]
          rw [e1]
        · rw [ftD_restN ew hl] at h
          exact Bool.noConfusion h
      | false =>
        by_cases hl : r.length = 1
        · obtain ⟨y, rfl⟩ : ∃ y, r = [y] := match r, hl with | [y], _ => ⟨y, rfl⟩
          rw [ftD_bi ew] at h
          obtain ⟨h0, h3⟩ := and_ok h
          obtain ⟨n, rfl, h1, h2⟩ := wDd_ok h3
          rcases Bool.or_eq_true_iff.mp h0 with h0 | h0
          · rw [eqS_eq' h0]
            exact ⟨⟨h1, h2⟩, rfl⟩
          · rw [eqS_eq' h0]
            exact ⟨⟨h1, h2⟩, rfl⟩
        · rw [ftD_len ew hl] at h
          exact Bool.noConfusion h
theorem fmT_ok {d : PyData} (h : fmT d = true) : (mvOf d).Ok ∧ MvT (mvOf d) d := by
  unfold fmT at h
  cases er : rowsOf d with
  | none => rw [er] at h; exact Bool.noConfusion h
  | some ds =>
    rw [er] at h
    have e0 : rowsN d = ds := by unfold rowsN; rw [er]; rfl
    unfold mvOf
    rw [e0]
    cases ds with
    | nil => exact Bool.noConfusion h
    | cons x r =>
      have h : fmD (x :: r) = true := h
      cases ew : eqS x "stay" with
      | true =>
        rw [fmD_turn ew] at h
        cases r with
        | nil =>
          rw [eqS_eq ew] at er ⊢
          exact ⟨trivial, er⟩
        | cons y t => exact Bool.noConfusion h
      | false =>
        by_cases hl : r.length = 1
        · obtain ⟨y, rfl⟩ : ∃ y, r = [y] := match r, hl with | [y], _ => ⟨y, rfl⟩
          cases em : eqS x "deed" with
          | true =>
            rw [fmD_mod ew em] at h
            rw [eqS_eq em] at er ⊢
            exact ⟨(flT_ok h).1, y, er, (flT_ok h).2⟩
          | false =>
            rw [fmD_sa ew em] at h
            obtain ⟨h0, h3⟩ := and_ok h
            rcases Bool.or_eq_true_iff.mp h0 with h0 | h0
            · rw [eqS_eq' h0] at er ⊢
              exact ⟨(ftT_ok h3).1, y, er, (ftT_ok h3).2⟩
            · rw [eqS_eq' h0] at er ⊢
              exact ⟨(ftT_ok h3).1, y, er, (ftT_ok h3).2⟩
        · rw [fmD_len ew hl] at h
          exact Bool.noConfusion h
/-! the other way -/
theorem flT_of {L : Lt} {d : PyData} (ok : L.Ok) (h : rowsOf d = some L.ds) : flT d = true := by
  unfold flT
  rw [h]
  show flD L.ds = true
  cases L with
  | set v => show flD [.str "set", .int v] = true; rw [flD_sa (eqS_ne (by decide)) (eqS_ne (by decide)), eqS_self', wDd_int ok]; rfl
  | add v => show flD [.str "add", .int v] = true; rw [flD_sa (eqS_ne (by decide)) (eqS_ne (by decide)), eqS_self', wDd_int ok, Bool.or_true]; rfl
  | turn => show flD [.str "turn"] = true; rw [flD_turn (eqS_self _)]; rfl
  | mod m =>
    show flD [.str "mod", .int m] = true
    rw [flD_mod (eqS_ne (by decide)) (eqS_self _)]
    have ok : 1 ≤ m ∧ m ≤ 6 := ok
    exact wDd_int (by omega)
theorem ftT_of {T : Ts} {d : PyData} (ok : T.Ok) (h : rowsOf d = some T.ds) : ftT d = true := by
  unfold ftT
  rw [h]
  show ftD T.ds = true
  cases T with
  | below v => show ftD [.str "below", .int v] = true; rw [ftD_bi (eqS_ne (by decide)), eqS_self', wDd_int ok]; rfl
  | is v => show ftD [.str "is", .int v] = true; rw [ftD_bi (eqS_ne (by decide)), eqS_self', wDd_int ok, Bool.or_true]; rfl
  | rest m r =>
    show ftD [.str "rest", .int m, .int r] = true
    have ok : (1 ≤ m ∧ m ≤ 6) ∧ 0 ≤ r ∧ r < m := ok
    rw [ftD_rest (eqS_self _), wDd_int (by omega)]
    exact wDd_int (show 0 ≤ r ∧ r ≤ (m : Int) - 1 by omega)
theorem fmT_of {m : Mv} {d : PyData} (ok : m.Ok) (h : MvT m d) : fmT d = true := by
  unfold fmT
  cases m with
  | stay => rw [show rowsOf d = some [.str "stay"] from h]; show fmD [.str "stay"] = true; rw [fmD_turn (eqS_self _)]; rfl
  | deed L =>
    obtain ⟨e, h1, h2⟩ := h
    rw [h1]
    show fmD [.str "deed", e] = true
    rw [fmD_mod (eqS_ne (by decide)) (eqS_self _)]
    exact flT_of ok h2
  | so T =>
    obtain ⟨e, h1, h2⟩ := h
    rw [h1]
    show fmD [.str "so", e] = true
    rw [fmD_sa (eqS_ne (by decide)) (eqS_ne (by decide)), eqS_self', ftT_of ok h2]; rfl
  | not T =>
    obtain ⟨e, h1, h2⟩ := h
    rw [h1]
    show fmD [.str "not", e] = true
    rw [fmD_sa (eqS_ne (by decide)) (eqS_ne (by decide)), eqS_self', ftT_of ok h2, Bool.or_true]; rfl
theorem rowsN_of {d : PyData} {ds : List PyData} (h : rowsOf d = some ds) : rowsN d = ds := by unfold rowsN; rw [h]; rfl
theorem ltOf_of {L : Lt} {d : PyData} (h : rowsOf d = some L.ds) : ltOf d = L := by
  unfold ltOf
  rw [rowsN_of h]
  cases L with
  | set v => rfl
  | add v => rfl
  | turn => rfl
  | mod m => rfl
theorem tsOf_of {T : Ts} {d : PyData} (h : rowsOf d = some T.ds) : tsOf d = T := by
  unfold tsOf
  rw [rowsN_of h]
  cases T with
  | below v => rfl
  | is v => rfl
  | rest m r => rfl
theorem mvOf_of {m : Mv} {d : PyData} (h : MvT m d) : mvOf d = m := by
  unfold mvOf
  cases m with
  | stay => rw [rowsN_of h]
  | deed L =>
    obtain ⟨e, h1, h2⟩ := h
    rw [rowsN_of h1, ← ltOf_of h2]
    rfl
  | so T =>
    obtain ⟨e, h1, h2⟩ := h
    rw [rowsN_of h1, ← tsOf_of h2]; rfl
  | not T =>
    obtain ⟨e, h1, h2⟩ := h
    rw [rowsN_of h1, ← tsOf_of h2]; rfl
theorem arOf_of {r : Ar} {d : PyData} (h : ArT r d) : arOf d = r := by
  obtain ⟨e, h1, h2⟩ := h
  unfold arOf
  rw [rowsN_of h1]
  show (⟨r.o, mvOf e, r.t⟩ : Ar) = r
  rw [mvOf_of h2]
theorem stOf_of {s : Int × Int} {d : PyData} (h : StT s d) : stOf d = s := by
  unfold stOf
  rw [rowsN_of h]
def isStart (n : Int) (d : PyData) : Bool := match rowsOf d with
  | some [a, b] => wDd 0 (n - 1) a && wDd (-1000) 1000 b
  | _ => false
def isArrow (n : Int) (d : PyData) : Bool := match rowsOf d with
  | some [a, e, b] => wDd 0 (n - 1) a && (fmT e && wDd 0 (n - 1) b)
  | _ => false
theorem isStart_ok {n : Int} {d : PyData} (h : isStart n d = true) : StT (stOf d) d ∧ 0 ≤ (stOf d).1 ∧ (stOf d).1 < n ∧ -1000 ≤ (stOf d).2 ∧ (stOf d).2 ≤ 1000 := by
  unfold isStart at h
  split at h
  · rename_i a b er
    obtain ⟨h1, h2⟩ := and_ok h
    obtain ⟨x, rfl, h3, h4⟩ := wDd_ok h1
    obtain ⟨y, rfl, h5, h6⟩ := wDd_ok h2
    have e := stOf_of (s := (x, y)) er
    rw [e]
    exact ⟨er, h3, by show x < n; omega, h5, h6⟩
  · exact Bool.noConfusion h
theorem isArrow_ok {n : Int} {d : PyData} (h : isArrow n d = true) : ArT (arOf d) d ∧ (arOf d).m.Ok ∧ 0 ≤ (arOf d).o ∧ (arOf d).o < n ∧ 0 ≤ (arOf d).t ∧ (arOf d).t < n := by
  unfold isArrow at h
  split at h
  · rename_i a m b er
    obtain ⟨h1, h2⟩ := and_ok h
    obtain ⟨h8, h7⟩ := and_ok h2
    obtain ⟨x, rfl, h3, h4⟩ := wDd_ok h1
    obtain ⟨y, rfl, h5, h6⟩ := wDd_ok h7
    obtain ⟨m1, m2⟩ := fmT_ok h8
    have t : ArT ⟨x, mvOf m, y⟩ d := ⟨m, er, m2⟩
    rw [arOf_of t]
    exact ⟨t, m1, h3, by show x < n; omega, h5, by show y < n; omega⟩
  · exact Bool.noConfusion h
theorem isStart_of {n : Int} {d : PyData} {s : Int × Int} (h : StT s d) (h1 : 0 ≤ s.1 ∧ s.1 < n) (h2 : -1000 ≤ s.2 ∧ s.2 ≤ 1000) : isStart n d = true := by
  unfold isStart
  rw [h]
  show (wDd 0 (n - 1) (.int s.1) && wDd (-1000) 1000 (.int s.2)) = true
  rw [wDd_int (by omega), wDd_int h2]; rfl
theorem isArrow_of {n : Int} {d : PyData} {r : Ar} (h : ArT r d) (ok : r.m.Ok) (h1 : 0 ≤ r.o ∧ r.o < n) (h2 : 0 ≤ r.t ∧ r.t < n) : isArrow n d = true := by
  obtain ⟨e, er, hm⟩ := h
  unfold isArrow
  rw [er]
  show (wDd 0 (n - 1) (.int r.o) && (fmT e && wDd 0 (n - 1) (.int r.t))) = true
  rw [wDd_int (by omega), wDd_int (by omega), fmT_of ok hm]; rfl
end My
set_option Elab.async false
set_option linter.all false
set_option maxRecDepth 100000
set_option maxHeartbeats 8000000
namespace My
open PySem PySem.Spec PyProof.Rows L2
local macro_rules | `(tactic| walk_at "lv") => `(tactic| first | exact Or.inl rfl | exact Or.inr rfl)
/-! ### things of tuples alone: they never change -/
mutual
inductive Im (H : Hp) : V → PyData → Prop
  | non : Im H .non .none
  | bl (b : Bool) : Im H (.bl b) (.bool b)
  | int (n : Int) : Im H (.int n) (.int n)
  | str (z : Str) : Im H (.str z) (.str z)
  | tup {a : Addr} {xs : List V} {ds : List PyData} : H a = some (.tup xs) → ImAll H xs ds → Im H (.ref a) (.tuple ds)
inductive ImAll (H : Hp) : List V → List PyData → Prop
  | nil : ImAll H [] []
  | cons {x : V} {d : PyData} {xs : List V} {ds : List PyData} : Im H x d → ImAll H xs ds → ImAll H (x :: xs) (d :: ds)
end
/-- tuples and instances stay -/
def Kt (H H' : Hp) : Prop := (∀ a xs, H a = some (.tup xs) → H' a = some (.tup xs)) ∧ ∀ a C dx fs, H a = some (.ins C dx fs) → H' a = some (.ins C dx fs)
section
variable {K : PySem.W.Frag} {p : Addr} {H H' H2 : Hp}
theorem Kt.refl (H : Hp) : Kt H H := ⟨fun _ _ e => e, fun _ _ _ _ e => e⟩
theorem Kt.trans (a : Kt H H') (b : Kt H' H2) : Kt H H2 := ⟨fun x xs e => b.1 x xs (a.1 x xs e), fun x C dx fs e => b.2 x C dx fs (a.2 x C dx fs e)⟩
theorem Kt.of (s : Same H H') : Kt H H' := ⟨fun a _ e => s a _ e, fun a _ _ _ e => s a _ e⟩
theorem Kt.but {xs : List V} (hp : H p = some (.lst xs)) (b : But p H H') : Kt H H' :=
  ⟨fun a _ e => b a _ (ne_of e hp (fun z => nomatch z)) e, fun a _ _ _ e => b a _ (ne_of e hp (fun z => nomatch z)) e⟩
theorem Kt.hand {c : Addr} (h : HandC H p c) (b : But p H H') : Kt H H' := by
  obtain ⟨_, _, _, _, hp, _⟩ := h
  exact Kt.but hp b
theorem Kt.lst {xs ys : List V} (hp : H p = some (.lst xs)) : Kt H (upd H p (.lst ys)) :=
  Kt.but hp fun b o hb e => by rw [upd_ne hb]; exact e
mutual
theorem Im.kt (k : Kt H H') : ∀ (d : PyData) (x : V), Im H x d → Im H' x d
  | .none, _, h => by cases h; exact .non
  | .bool _, _, h => by cases h; exact .bl _
  | .int _, _, h => by cases h; exact .int _
  | .str _, _, h => by cases h; exact .str _
  | .list _, _, h => by cases h
  | .tuple ds, _, h => by cases h with | tup e r => exact .tup (k.1 _ _ e) (ImAll.kt k ds _ r)
theorem ImAll.kt (k : Kt H H') : ∀ (ds : List PyData) (xs : List V), ImAll H xs ds → ImAll H' xs ds
  | [], _, h => by cases h; exact .nil
  | d :: ds, _, h => by cases h with | cons h r => exact .cons (Im.kt k d _ h) (ImAll.kt k ds _ r)
end
mutual
theorem Im.dp : ∀ (d : PyData) (x : V), Im H x d → Dp K H x d
  | .none, _, h => by cases h; exact .non
  | .bool _, _, h => by cases h; exact .bl _
  | .int _, _, h => by cases h; exact .int _
  | .str _, _, h => by cases h; exact .str _
  | .list _, _, h => by cases h
  | .tuple ds, _, h => by cases h with | tup e r => exact .tup (SqT.of e) (ImAll.dp ds _ r)
theorem ImAll.dp : ∀ (ds : List PyData) (xs : List V), ImAll H xs ds → DpAll K H xs ds
  | [], _, h => by cases h; exact .nil
  | d :: ds, _, h => by cases h with | cons h r => exact .cons (Im.dp d _ h) (ImAll.dp ds _ r)
end
theorem shp_list {ds : List PyData} (h : SeqAt.shaped (.tuple ds) = true) : ∀ d ∈ ds, SeqAt.shaped d = true := by
  intro d hd
  unfold SeqAt.shaped at h ⊢
  obtain ⟨g1, g2⟩ := and_ok h
  have g3 := of_decide_eq_true g2
  have h1 : PyData.canLayAll0 ds = true := by simpa [PyData.canLay0] using g1
  have h2 : PyData.depthAll ds + 1 ≤ 64 := by simpa [PyData.depth] using g3
  have q : d.canLay0 = true ∧ d.depth ≤ PyData.depthAll ds := by
    clear g1 g2 g3 h2 h
    induction ds with
    | nil => simp at hd
    | cons e es ih =>
      obtain ⟨a, b⟩ := and_ok (show (PyData.canLay0 e && PyData.canLayAll0 es) = true by simpa [PyData.canLayAll0] using h1)
      rcases List.mem_cons.1 hd with rfl | hd
      · exact ⟨a, by simp only [PyData.depthAll]; omega⟩
      · obtain ⟨q1, q2⟩ := ih hd b
        exact ⟨q1, by simp only [PyData.depthAll]; omega⟩
  rw [q.1, decide_eq_true (by omega)]
  rfl
mutual
theorem Im.tg (hp : ∀ xs, H p ≠ some (.tup xs)) : ∀ (d : PyData) (x : V), Im H x d → SeqAt.shaped d = true → Tg p H x d
  | .none, _, h, _ => by cases h; exact .non
  | .bool _, _, h, _ => by cases h; exact .bl _
  | .int _, _, h, _ => by cases h; exact .int _
  | .str _, _, h, s => by cases h; exact .str _ s
  | .list _, _, h, _ => by cases h
  | .tuple ds, _, h, s => by cases h with | tup e r => exact .tup e (fun z => hp _ (z ▸ e)) (ImAll.tg hp ds _ r (shp_list s)) s
theorem ImAll.tg (hp : ∀ xs, H p ≠ some (.tup xs)) : ∀ (ds : List PyData) (xs : List V), ImAll H xs ds → (∀ d ∈ ds, SeqAt.shaped d = true) → TgAll p H xs ds
  | [], _, h, _ => by cases h; exact .nil
  | d :: ds, _, h, s => by cases h with | cons h r => exact .cons (Im.tg hp d _ h (s d List.mem_cons_self)) (ImAll.tg hp ds _ r fun e he => s e (List.mem_cons_of_mem _ he))
end
mutual
def nkOf : PyData → NestedKey
  | .none => .none
  | .bool b => .num (if b = true then 1 else 0)
  | .int n => .num n
  | .str z => .text z
  | .list _ => .none
  | .tuple ds => .tup (nkAll ds)
  | _ => .none
def nkAll : List PyData → List NestedKey
  | [] => []
  | d :: ds => nkOf d :: nkAll ds
end
mutual
theorem Im.nk : ∀ (d : PyData) (x : V), Im H x d → Nk H x (nkOf d)
  | .none, _, h => by cases h; exact .non
  | .bool _, _, h => by cases h; exact .bl _
  | .int _, _, h => by cases h; exact .int _
  | .str _, _, h => by cases h; exact .str _
  | .list _, _, h => by cases h
  | .tuple ds, _, h => by cases h with | tup e r => exact .tup e (ImAll.nk ds _ r)
theorem ImAll.nk : ∀ (ds : List PyData) (xs : List V), ImAll H xs ds → NkAll H xs (nkAll ds)
  | [], _, h => by cases h; exact .nil
  | d :: ds, _, h => by cases h with | cons h r => exact .cons (Im.nk d _ h) (ImAll.nk ds _ r)
end
theorem ImAll.len : ∀ {xs : List V} {ds : List PyData}, ImAll H xs ds → xs.length = ds.length
  | _, _, .nil => rfl
  | _, _, .cons _ r => congrArg Nat.succ (ImAll.len r)
theorem ImAll.get : ∀ {xs : List V} {ds : List PyData} {i : Nat} {x : V}, ImAll H xs ds → xs[i]? = some x → ∃ d, ds[i]? = some d ∧ Im H x d
  | _, _, 0, _, .cons h _, e => by cases e; exact ⟨_, rfl, h⟩
  | _, _, i + 1, _, .cons _ r, e => ImAll.get (i := i) r (by simpa using e)
  | _, _, _, _, .nil, hq => by simp at hq
theorem ImAll.snoc {x : V} {d : PyData} : ∀ {xs : List V} {ds : List PyData}, ImAll H xs ds → Im H x d → ImAll H (xs ++ [x]) (ds ++ [d])
  | _, _, .nil, z => .cons z .nil
  | _, _, .cons a r, h => .cons a (ImAll.snoc r h)
/-! what stands in them -/
theorem Im.vals2 {L : Lt} {a : Addr} (h : Im H (.ref a) L.d) : H a = some (.tup L.vs) := by
  cases L with
  | set v => cases h with | tup e r => cases r with | cons h1 r => cases h1; cases r with | cons h2 r => cases h2; cases r; exact e
  | add v => cases h with | tup e r => cases r with | cons h1 r => cases h1; cases r with | cons h2 r => cases h2; cases r; exact e
  | turn => cases h with | tup e r => cases r with | cons h1 r => cases h1; cases r; exact e
  | mod m => cases h with | tup e r => cases r with | cons h1 r => cases h1; cases r with | cons h2 r => cases h2; cases r; exact e
theorem Im.vals3 {T : Ts} {a : Addr} (h : Im H (.ref a) T.d) : H a = some (.tup T.vs) := by
  cases T with
  | below v => cases h with | tup e r => cases r with | cons h1 r => cases h1; cases r with | cons h2 r => cases h2; cases r; exact e
  | is v => cases h with | tup e r => cases r with | cons h1 r => cases h1; cases r with | cons h2 r => cases h2; cases r; exact e
  | rest m q => cases h with | tup e r => cases r with | cons h1 r => cases h1; cases r with | cons h2 r => cases h2; cases r with | cons h3 r => cases h3; cases r; exact e
theorem Im.ref {x : V} {ds : List PyData} (h : Im H x (.tuple ds)) : ∃ a xs, x = .ref a ∧ H a = some (.tup xs) ∧ ImAll H xs ds := by
  cases h with | tup e r => exact ⟨_, _, rfl, e, r⟩
theorem im_lt {L : Lt} {a : Addr} (h : H a = some (.tup L.vs)) : Im H (.ref a) L.d := by
  cases L with
  | set v => exact .tup h (.cons (.str _) (.cons (.int _) .nil))
  | add v => exact .tup h (.cons (.str _) (.cons (.int _) .nil))
  | turn => exact .tup h (.cons (.str _) .nil)
  | mod m => exact .tup h (.cons (.str _) (.cons (.int _) .nil))
theorem im_ts {T : Ts} {a : Addr} (h : H a = some (.tup T.vs)) : Im H (.ref a) T.d := by
  cases T with
  | below v => exact .tup h (.cons (.str _) (.cons (.int _) .nil))
  | is v => exact .tup h (.cons (.str _) (.cons (.int _) .nil))
  | rest m r => exact .tup h (.cons (.str _) (.cons (.int _) (.cons (.int _) .nil)))
/-- the row of a move -/
def MvR (H : Hp) (a : Addr) : Mv → Prop
  | .stay => H a = some (.tup [.str "stay"])
  | .deed L => ∃ l, H a = some (.tup [.str "deed", .ref l]) ∧ H l = some (.tup L.vs)
  | .so T => ∃ l, H a = some (.tup [.str "so", .ref l]) ∧ H l = some (.tup T.vs)
  | .not T => ∃ l, H a = some (.tup [.str "not", .ref l]) ∧ H l = some (.tup T.vs)
theorem Im.mv {m : Mv} {x : V} (h : Im H x m.d) : ∃ a, x = .ref a ∧ MvR H a m := by
  obtain ⟨a, xs, rfl, e, r⟩ := h.ref
  refine ⟨a, rfl, ?_⟩
  cases m with
  | stay => cases r with | cons h1 r => cases h1; cases r; exact e
  | deed L => cases r with | cons h1 r => cases h1; cases r with | cons h2 r => cases r; obtain ⟨l, _, rfl, _, _⟩ := h2.ref; exact ⟨l, e, h2.vals2⟩
  | so T => cases r with | cons h1 r => cases h1; cases r with | cons h2 r => cases r; obtain ⟨l, _, rfl, _, _⟩ := h2.ref; exact ⟨l, e, h2.vals3⟩
  | not T => cases r with | cons h1 r => cases h1; cases r with | cons h2 r => cases r; obtain ⟨l, _, rfl, _, _⟩ := h2.ref; exact ⟨l, e, h2.vals3⟩
theorem im_mv {m : Mv} {a : Addr} (h : MvR H a m) : Im H (.ref a) m.d := by
  cases m with
  | stay => exact .tup h (.cons (.str _) .nil)
  | deed L => obtain ⟨l, e, e2⟩ := h; exact .tup e (.cons (.str _) (.cons (im_lt e2) .nil))
  | so T => obtain ⟨l, e, e2⟩ := h; exact .tup e (.cons (.str _) (.cons (im_ts e2) .nil))
  | not T => obtain ⟨l, e, e2⟩ := h; exact .tup e (.cons (.str _) (.cons (im_ts e2) .nil))
theorem Im.ar {r : Ar} {x : V} (h : Im H x r.d) : ∃ a m, x = .ref a ∧ H a = some (.tup [.int r.o, .ref m, .int r.t]) ∧ MvR H m r.m := by
  obtain ⟨a, xs, rfl, e, q⟩ := h.ref
  cases q with
  | cons h1 q => cases h1; cases q with | cons h2 q => cases q with | cons h3 q => cases h3; cases q; obtain ⟨m, rfl, hm⟩ := Im.mv h2; exact ⟨a, m, rfl, e, hm⟩
theorem im_ar {r : Ar} {a m : Addr} (e : H a = some (.tup [.int r.o, .ref m, .int r.t])) (h : MvR H m r.m) : Im H (.ref a) r.d := .tup e (.cons (.int _) (.cons (im_mv h) (.cons (.int _) .nil)))
theorem Im.st {s : Int × Int} {x : V} (h : Im H x (stD s)) : ∃ a, x = .ref a ∧ H a = some (.tup [.int s.1, .int s.2]) := by
  obtain ⟨a, xs, rfl, e, q⟩ := h.ref
  cases q with
  | cons h1 q => cases h1; cases q with | cons h3 q => cases h3; cases q; exact ⟨a, rfl, e⟩
end
/-! shapes -/
theorem shp_lt (L : Lt) : SeqAt.shaped L.d = true := by cases L <;> kernel_rfl
theorem shp_ts (T : Ts) : SeqAt.shaped T.d = true := by cases T <;> kernel_rfl
theorem shp_mv (m : Mv) : SeqAt.shaped m.d = true := by
  cases m with
  | stay => kernel_rfl
  | deed L => cases L <;> kernel_rfl
  | so T => cases T <;> kernel_rfl
  | not T => cases T <;> kernel_rfl
theorem shp_ar (r : Ar) : SeqAt.shaped r.d = true := by
  obtain ⟨o, m, t⟩ := r
  cases m with
  | stay => kernel_rfl
  | deed L => cases L <;> kernel_rfl
  | so T => cases T <;> kernel_rfl
  | not T => cases T <;> kernel_rfl
theorem dep_ar (r : Ar) : (nkOf r.d).depth ≤ 8 := by
  obtain ⟨o, m, t⟩ := r
  cases m with
  | stay => exact Nat.le_of_ble_eq_true (by kernel_rfl)
  | deed L => cases L <;> exact Nat.le_of_ble_eq_true (by kernel_rfl)
  | so T => cases T <;> exact Nat.le_of_ble_eq_true (by kernel_rfl)
  | not T => cases T <;> exact Nat.le_of_ble_eq_true (by kernel_rfl)
def Small (n : Nat) (d : PyData) : Prop := d.canLay0 = true ∧ d.depth ≤ n
theorem canAll_of : ∀ {ds : List PyData}, (∀ d ∈ ds, d.canLay0 = true) → PyData.canLayAll0 ds = true
  | [], _ => by simp [PyData.canLayAll0]
  | d :: ds, h => by
    have ih := canAll_of (ds := ds) fun e he => h e (List.mem_cons_of_mem _ he)
    simp only [PyData.canLayAll0, h d List.mem_cons_self, ih, Bool.and_self]
theorem depAll_of {n : Nat} : ∀ {ds : List PyData}, (∀ d ∈ ds, d.depth ≤ n) → PyData.depthAll ds ≤ n
  | [], _ => by simp [PyData.depthAll]
  | d :: ds, h => by
    have ih := depAll_of (ds := ds) fun e he => h e (List.mem_cons_of_mem _ he)
    have := h d List.mem_cons_self
    simp only [PyData.depthAll]
    omega
theorem small_tup {n : Nat} {ds : List PyData} (h : ∀ d ∈ ds, Small n d) : Small (n + 1) (.tuple ds) := by
  refine ⟨?_, ?_⟩
  · simp only [PyData.canLay0]
    exact canAll_of fun d hd => (h d hd).1
  · simp only [PyData.depth]
    have := depAll_of (ds := ds) (n := n) fun d hd => (h d hd).2
    omega
theorem small_lst {n : Nat} {ds : List PyData} (h : ∀ d ∈ ds, Small n d) : Small (n + 1) (.list ds) := by
  refine ⟨?_, ?_⟩
  · simp only [PyData.canLay0]
    exact canAll_of fun d hd => (h d hd).1
  · simp only [PyData.depth]
    have := depAll_of (ds := ds) (n := n) fun d hd => (h d hd).2
    omega
theorem Small.shaped {n : Nat} {d : PyData} (h : Small n d) (hn : n ≤ 64) : SeqAt.shaped d = true := by
  have h1 := h.1
  have h2 := h.2
  unfold SeqAt.shaped
  rw [h1, decide_eq_true (by omega)]
  rfl
theorem small_ar (r : Ar) : Small 8 r.d := by
  have h := shp_ar r
  refine ⟨?_, ?_⟩
  · unfold SeqAt.shaped at h
    exact (and_ok h).1
  · obtain ⟨o, m, t⟩ := r
    cases m with
    | stay => exact Nat.le_of_ble_eq_true (by kernel_rfl)
    | deed L => cases L <;> exact Nat.le_of_ble_eq_true (by kernel_rfl)
    | so T => cases T <;> exact Nat.le_of_ble_eq_true (by kernel_rfl)
    | not T => cases T <;> exact Nat.le_of_ble_eq_true (by kernel_rfl)
theorem small_st (s : Int × Int) : Small 8 (stD s) := ⟨by kernel_rfl, Nat.le_of_ble_eq_true (by kernel_rfl)⟩
theorem shp_starts (ss : List (Int × Int)) : SeqAt.shaped (startsD ss) = true := (small_tup (n := 8) fun d hd => by
  obtain ⟨s, _, rfl⟩ := List.mem_map.mp hd
  exact small_st s).shaped (by decide)
theorem shp_arrows (rs : List Ar) : SeqAt.shaped (arrowsD rs) = true := (small_tup (n := 8) fun d hd => by
  obtain ⟨s, _, rfl⟩ := List.mem_map.mp hd
  exact small_ar s).shaped (by decide)
end My
set_option Elab.async false
set_option linter.all false
set_option maxRecDepth 100000
set_option maxHeartbeats 8000000
namespace My
open PySem PySem.Spec PyProof.Rows L2
local macro_rules | `(tactic| walk_at "lv") => `(tactic| first | exact Or.inl rfl | exact Or.inr rfl)
section
variable {p : Addr} {H H' : Hp}
theorem tgAll_lt {L : Lt} {xs : List V} (h : TgAll p H xs L.ds) : xs = L.vs := by
  cases L with
  | set v => cases h with | cons h1 r => cases h1; cases r with | cons h2 r => cases h2; cases r; rfl
  | add v => cases h with | cons h1 r => cases h1; cases r with | cons h2 r => cases h2; cases r; rfl
  | turn => cases h with | cons h1 r => cases h1; cases r; rfl
  | mod m => cases h with | cons h1 r => cases h1; cases r with | cons h2 r => cases h2; cases r; rfl
theorem tgAll_ts {T : Ts} {xs : List V} (h : TgAll p H xs T.ds) : xs = T.vs := by
  cases T with
  | below v => cases h with | cons h1 r => cases h1; cases r with | cons h2 r => cases h2; cases r; rfl
  | is v => cases h with | cons h1 r => cases h1; cases r with | cons h2 r => cases h2; cases r; rfl
  | rest m q => cases h with | cons h1 r => cases h1; cases r with | cons h2 r => cases h2; cases r with | cons h3 r => cases h3; cases r; rfl
theorem tgAll_two {xs : List V} {z : Str} {e : PyData} (h : TgAll p H xs [.str z, e]) : ∃ y, xs = [.str z, y] ∧ Tg p H y e := by
  cases h with | cons h1 r => cases h1; cases r with | cons h2 r => cases r; exact ⟨_, rfl, h2⟩
theorem tgAll_one {xs : List V} {z : Str} (h : TgAll p H xs [.str z]) : xs = [.str z] := by
  cases h with | cons h1 r => cases h1; cases r; rfl
end
structure Err1 (K : PySem.W.Frag) (mg : Str → Option Value) (x : Str) : Prop where
  f : ExF K mg x "BookError" []
  c : ExcC K (He.ga K x)
  xm : PySem.W.exmOne K (.ref (He.ga K x)) (.ref (He.ga K x)) = some true
  gb : mg "BookError" = some (.ref (He.ga K "BookError"))
section
variable {P : Program} {w : World} {K : PySem.W.Frag} {mg : Str → Option Value} {base : Heap}
/-! ### check_move -/
def spCm (K : PySem.W.Frag) : Sp := fun vs H Q E => ∃ (p : Addr) (x : V) (d : PyData), vs = [x] ∧ Tg p H x d ∧ (fmT d = false → ∀ H', Same H H' → E (.ref (He.ga K "BadMove")) none H') ∧ (fmT d = true → ∀ a H', Same H H' → Im H' (.ref a) (mvOf d).d → Q (.ref a) H')
abbrev s_cm : Stmt := top 23
abbrev N_cm : List Str := ["move"]
theorem sc_cm : FnScope N_cm ["move"] (defScope s_cm) := ⟨rfl, rfl, rfl, by decide +kernel, rfl, by decide +kernel, by decide +kernel⟩
theorem kp_cm (F : At K mg "check_move" s_cm) (N : Nb mg) (T : Err1 K mg "BadMove") (Gf : Keeps CX0 P w K mg base "fits_move" 4 ["move"] (spFitT K fmT)) : Keeps (CX P w) P w K mg base "check_move" 5 ["move"] (spCm K) := by
  refine keeps_ofX F sc_cm (fun _ _ _ _ _ _ us hl => match us, hl with | [_], _ => rfl) (fun vs H Q E h => ?_) (fun f cdv A outer s H vs Q E hr h => ?_)
  · obtain ⟨p, x, d, rfl, _⟩ := h
    rfl
  · obtain ⟨p, x, d, rfl, hx, kf, kt⟩ := h
    refine ⟨_, (pss_cons (ps_if (pt_not (pt_val (pe_k Gf hr (by rfl) pass0 (pa_cons (pv 0) pa_nil)))) (pss_one (ps_raise rfl (takes_of rfl rfl rfl rfl) (pmk0 T.f (by rfl)))) pss_nil)
        (pss_cons (ps_if (pt_cmpR op_eq (pe_ix ix_any (pv 0) pe_int (fun _ _ => rfl)) pe_str (nomark _)) (pss_one (ps_ret (pe_tup (pa_cons pe_str pa_nil)))) pss_nil)
        (pss_one (ps_ret (pe_tup (pa_cons (pe_ix ix_any (pv 0) pe_int (fun _ _ => rfl)) (pa_cons (pe_callTy call_tuple_of (by rfl) N.tuple (by decide +kernel) (pa_cons (pe_ix ix_any (pv 0) pe_int (fun _ _ => rfl)) pa_nil)) pa_nil))))))), ?_⟩
    refine ⟨_, rfl, p, x, d, rfl, hx, fun H1 s1 => ⟨_, rfl, ?_⟩⟩
    cases e : fmT d with
    | false => exact iteT (kf e H1 s1)
    | true =>
      refine iteF ?_
      have kt := kt e
      have mt := (fmT_ok e).2
      have hx1 := hx.same s1
      cases em : mvOf d with
      | stay =>
        rw [em] at mt kt
        obtain ⟨a, xs, rfl, sq, tg⟩ := hx1.rows mt
        obtain rfl := tgAll_one tg
        refine ⟨_, rfl, ixA_of sq at_head ⟨rfl, _, rfl, iteS ⟨(by show 1 ≤ sizeLine; decide), fun q hq => ?_⟩⟩⟩
        exact kt q _ (same_new s1 hq) (im_mv (m := .stay) upd_same)
      | deed L =>
        rw [em] at mt kt
        obtain ⟨d2, m1, m2⟩ := mt
        obtain ⟨a, xs, rfl, sq, tg⟩ := hx1.rows m1
        obtain ⟨y, rfl, ty⟩ := tgAll_two tg
        obtain ⟨b, ys, rfl, sq2, tg2⟩ := ty.rows m2
        obtain rfl := tgAll_lt tg2
        have fin : ∀ q H2, Same H1 H2 → H2 q = some (.tup L.vs) → ((2 ≤ sizeLine) ∧ ∀ q2, H2 q2 = none → Q (.ref q2) (upd H2 q2 (.tup [.str "deed", .ref q]))) := fun q H2 s2 e2 => ⟨by decide, fun q2 hq2 => kt q2 _ (same_new (s1.trans s2) hq2) (im_mv (m := .deed L) ⟨q, upd_same, by rw [upd_ne (ne_of_none e2 hq2)]; exact e2⟩)⟩
        refine ⟨_, rfl, ixA_of sq at_head ⟨rfl, _, rfl, iteN (by decide) ⟨_, rfl, ixA_of sq at_head ⟨_, rfl, ixA_of sq rfl ?_⟩⟩⟩⟩
        rcases sq2 with e2 | e2
        · exact ⟨b, _, rfl, .inl ⟨SqL.of e2, fun l hl => fin l _ (same_new (Same.refl H1) hl) upd_same⟩⟩
        · exact ⟨b, _, rfl, .inr ⟨SqT.of e2, fin b _ (Same.refl H1) e2⟩⟩
      | so L =>
        rw [em] at mt kt
        obtain ⟨d2, m1, m2⟩ := mt
        obtain ⟨a, xs, rfl, sq, tg⟩ := hx1.rows m1
        obtain ⟨y, rfl, ty⟩ := tgAll_two tg
        obtain ⟨b, ys, rfl, sq2, tg2⟩ := ty.rows m2
        obtain rfl := tgAll_ts tg2
        have fin : ∀ q H2, Same H1 H2 → H2 q = some (.tup L.vs) → ((2 ≤ sizeLine) ∧ ∀ q2, H2 q2 = none → Q (.ref q2) (upd H2 q2 (.tup [.str "so", .ref q]))) := fun q H2 s2 e2 => ⟨by decide, fun q2 hq2 => kt q2 _ (same_new (s1.trans s2) hq2) (im_mv (m := .so L) ⟨q, upd_same, by rw [upd_ne (ne_of_none e2 hq2)]; exact e2⟩)⟩
        refine ⟨_, rfl, ixA_of sq at_head ⟨rfl, _, rfl, iteN (by decide) ⟨_, rfl, ixA_of sq at_head ⟨_, rfl, ixA_of sq rfl ?_⟩⟩⟩⟩
        rcases sq2 with e2 | e2
        · exact ⟨b, _, rfl, .inl ⟨SqL.of e2, fun l hl => fin l _ (same_new (Same.refl H1) hl) upd_same⟩⟩
        · exact ⟨b, _, rfl, .inr ⟨SqT.of e2, fin b _ (Same.refl H1) e2⟩⟩
      | not L =>
        rw [em] at mt kt
        obtain ⟨d2, m1, m2⟩ := mt
        obtain ⟨a, xs, rfl, sq, tg⟩ := hx1.rows m1
        obtain ⟨y, rfl, ty⟩ := tgAll_two tg
        obtain ⟨b, ys, rfl, sq2, tg2⟩ := ty.rows m2
        obtain rfl := tgAll_ts tg2
        have fin : ∀ q H2, Same H1 H2 → H2 q = some (.tup L.vs) → ((2 ≤ sizeLine) ∧ ∀ q2, H2 q2 = none → Q (.ref q2) (upd H2 q2 (.tup [.str "not", .ref q]))) := fun q H2 s2 e2 => ⟨by decide, fun q2 hq2 => kt q2 _ (same_new (s1.trans s2) hq2) (im_mv (m := .not L) ⟨q, upd_same, by rw [upd_ne (ne_of_none e2 hq2)]; exact e2⟩)⟩
        refine ⟨_, rfl, ixA_of sq at_head ⟨rfl, _, rfl, iteN (by decide) ⟨_, rfl, ixA_of sq at_head ⟨_, rfl, ixA_of sq rfl ?_⟩⟩⟩⟩
        rcases sq2 with e2 | e2
        · exact ⟨b, _, rfl, .inl ⟨SqL.of e2, fun l hl => fin l _ (same_new (Same.refl H1) hl) upd_same⟩⟩
        · exact ⟨b, _, rfl, .inr ⟨SqT.of e2, fin b _ (Same.refl H1) e2⟩⟩
/-! ### move_number -/
def Mv.num : Mv → Int → V
  | .stay, n => .int n
  | .deed L, n => .int (L.deed n)
  | .so T, n => if T.pass n = true then .int n else .non
  | .not T, n => if T.pass n = true then .non else .int n
def spMn : Sp := fun vs H Q _ => ∃ (a : Addr) (m : Mv) (n : Int), vs = [.ref a, .int n] ∧ MvR H a m ∧ m.Ok ∧ Q (m.num n) H
abbrev s_mn : Stmt := top 24
abbrev N_mn : List Str := ["move", "number"]
theorem sc_mn : FnScope N_mn ["move", "number"] (defScope s_mn) := ⟨rfl, rfl, rfl, by decide +kernel, rfl, by decide +kernel, by decide +kernel⟩
theorem iteB {a b : Bool} {p q : Prop} (h1 : a = b → p) (h2 : a ≠ b → q) : if decide (V.bl a = V.bl b) = true then p else q := by
  by_cases h : a = b
  · rw [if_pos (by rw [h]; exact decide_eq_true rfl)]; exact h1 h
  · rw [if_neg (by rw [decide_eq_false fun z => h (V.bl.inj z)]; exact Bool.false_ne_true)]; exact h2 h
theorem kp_mn (F : At K mg "move_number" s_mn) (Gd : Keeps CX0 P w K mg base "do_letter" 1 ["letter", "number"] spDeed) (Gp : Keeps CX0 P w K mg base "passes" 1 ["test", "number"] spPass) : Keeps CX0 P w K mg base "move_number" 2 ["move", "number"] spMn := by
  refine keeps_of F sc_mn (fun _ _ _ _ _ _ us hl => match us, hl with | [_, _], _ => rfl) (fun vs H Q E h => ?_) (fun f cdv A outer s H vs Q E hr h => ?_)
  · obtain ⟨a, m, n, rfl, _⟩ := h
    rfl
  · obtain ⟨a, m, n, rfl, hm, ok, k⟩ := h
    refine ⟨_, (pss_cons (ps_if (pt_cmpR op_eq (pe_ix ix_tup (pv 0) pe_int (fun _ _ => rfl)) pe_str (nomark _)) (pss_one (ps_ret (pv 1))) pss_nil)
        (pss_cons (ps_if (pt_cmpR op_eq (pe_ix ix_tup (pv 0) pe_int (fun _ _ => rfl)) pe_str (nomark _)) (pss_one (ps_ret (pe_k Gd hr (by rfl) pass0 (pa_cons (pe_ix ix_tup (pv 0) pe_int (fun _ _ => rfl)) (pa_cons (pv 1) pa_nil))))) pss_nil)
        (pss_cons (ps_if (pt_cmpR op_eq (pe_k Gp hr (by rfl) pass0 (pa_cons (pe_ix ix_tup (pv 0) pe_int (fun _ _ => rfl)) (pa_cons (pv 1) pa_nil))) (pe_cmpR op_eq (pe_ix ix_tup (pv 0) pe_int (fun _ _ => rfl)) pe_str (nomark _)) (nomark _)) (pss_one (ps_ret (pv 1))) pss_nil)
        (pss_one (ps_ret pe_non))))), ?_⟩
    cases m with
    | stay => exact ⟨_, rfl, a, _, _, _, rfl, rfl, SqT.of hm, rfl, rfl, _, rfl, iteS ⟨_, rfl, k⟩⟩
    | deed L =>
      obtain ⟨l, h1, h2⟩ := hm
      refine ⟨_, rfl, a, _, _, _, rfl, rfl, SqT.of h1, rfl, rfl, _, rfl, iteN (by decide) ⟨_, rfl, a, _, _, _, rfl, rfl, SqT.of h1, rfl, rfl, _, rfl, iteS ?_⟩⟩
      exact ⟨_, rfl, a, _, _, _, rfl, rfl, SqT.of h1, rfl, _, rfl, l, L, n, rfl, h2, ok, k⟩
    | so T =>
      obtain ⟨l, h1, h2⟩ := hm
      refine ⟨_, rfl, a, _, _, _, rfl, rfl, SqT.of h1, rfl, rfl, _, rfl, iteN (by decide) ⟨_, rfl, a, _, _, _, rfl, rfl, SqT.of h1, rfl, rfl, _, rfl, iteN (by decide) ?_⟩⟩
      refine ⟨_, rfl, a, _, _, _, rfl, rfl, SqT.of h1, rfl, _, rfl, l, T, n, rfl, h2, ok, _, rfl, a, _, _, _, rfl, rfl, SqT.of h1, rfl, rfl, rfl, _, rfl, ?_⟩
      have k : Q (if T.pass n = true then .int n else .non) H := k
      refine iteB (fun e => ⟨_, rfl, ?_⟩) (fun e => ?_)
      · rw [show T.pass n = true from e] at k; exact k
      · rw [if_neg (fun z => e (by rw [z]; rfl))] at k; exact k
    | not T =>
      obtain ⟨l, h1, h2⟩ := hm
      refine ⟨_, rfl, a, _, _, _, rfl, rfl, SqT.of h1, rfl, rfl, _, rfl, iteN (by decide) ⟨_, rfl, a, _, _, _, rfl, rfl, SqT.of h1, rfl, rfl, _, rfl, iteN (by decide) ?_⟩⟩
      refine ⟨_, rfl, a, _, _, _, rfl, rfl, SqT.of h1, rfl, _, rfl, l, T, n, rfl, h2, ok, _, rfl, a, _, _, _, rfl, rfl, SqT.of h1, rfl, rfl, rfl, _, rfl, ?_⟩
      have k : Q (if T.pass n = true then .non else .int n) H := k
      refine iteB (fun e => ⟨_, rfl, ?_⟩) (fun e => ?_)
      · rw [show T.pass n = false from e] at k; exact k
      · rw [if_pos (by cases q : T.pass n with | true => rfl | false => exact absurd (q.trans rfl) e)] at k; exact k
/-! ### _law_moved -/
abbrev s_lmv : Stmt := top 47
abbrev N_lmv : List Str := ["_law_move_here", "_law_number"]
theorem sc_lmv : FnScope N_lmv ["_law_move_here", "_law_number"] (defScope s_lmv) := ⟨rfl, rfl, rfl, by decide +kernel, rfl, by decide +kernel, by decide +kernel⟩
theorem kp_lmv (F : At K mg "_law_moved" s_lmv) (Gd : Keeps CX0 P w K mg base "_law_deed" 1 ["_law_letter_here", "_law_number"] spDeed) (Gp : Keeps CX0 P w K mg base "_law_passes" 1 ["_law_test_here", "_law_number"] spPass) : Keeps CX0 P w K mg base "_law_moved" 2 ["_law_move_here", "_law_number"] spMn := by
  refine keeps_of F sc_lmv (fun _ _ _ _ _ _ us hl => match us, hl with | [_, _], _ => rfl) (fun vs H Q E h => ?_) (fun f cdv A outer s H vs Q E hr h => ?_)
  · obtain ⟨a, m, n, rfl, _⟩ := h
    rfl
  · obtain ⟨a, m, n, rfl, hm, ok, k⟩ := h
    refine ⟨_, (pss_cons (ps_if (pt_cmpR op_eq (pe_ix ix_tup (pv 0) pe_int (fun _ _ => rfl)) pe_str (nomark _)) (pss_one (ps_ret (pv 1))) pss_nil)
        (pss_cons (ps_if (pt_cmpR op_eq (pe_ix ix_tup (pv 0) pe_int (fun _ _ => rfl)) pe_str (nomark _)) (pss_one (ps_ret (pe_k Gd hr (by rfl) pass0 (pa_cons (pe_ix ix_tup (pv 0) pe_int (fun _ _ => rfl)) (pa_cons (pv 1) pa_nil))))) pss_nil)
        (pss_cons (ps_if (pt_cmpR op_eq (pe_k Gp hr (by rfl) pass0 (pa_cons (pe_ix ix_tup (pv 0) pe_int (fun _ _ => rfl)) (pa_cons (pv 1) pa_nil))) (pe_cmpR op_eq (pe_ix ix_tup (pv 0) pe_int (fun _ _ => rfl)) pe_str (nomark _)) (nomark _)) (pss_one (ps_ret (pv 1))) pss_nil)
        (pss_one (ps_ret pe_non))))), ?_⟩
    cases m with
    | stay => exact ⟨_, rfl, a, _, _, _, rfl, rfl, SqT.of hm, rfl, rfl, _, rfl, iteS ⟨_, rfl, k⟩⟩
    | deed L =>
      obtain ⟨l, h1, h2⟩ := hm
      refine ⟨_, rfl, a, _, _, _, rfl, rfl, SqT.of h1, rfl, rfl, _, rfl, iteN (by decide) ⟨_, rfl, a, _, _, _, rfl, rfl, SqT.of h1, rfl, rfl, _, rfl, iteS ?_⟩⟩
      exact ⟨_, rfl, a, _, _, _, rfl, rfl, SqT.of h1, rfl, _, rfl, l, L, n, rfl, h2, ok, k⟩
    | so T =>
      obtain ⟨l, h1, h2⟩ := hm
      refine ⟨_, rfl, a, _, _, _, rfl, rfl, SqT.of h1, rfl, rfl, _, rfl, iteN (by decide) ⟨_, rfl, a, _, _, _, rfl, rfl, SqT.of h1, rfl, rfl, _, rfl, iteN (by decide) ?_⟩⟩
      refine ⟨_, rfl, a, _, _, _, rfl, rfl, SqT.of h1, rfl, _, rfl, l, T, n, rfl, h2, ok, _, rfl, a, _, _, _, rfl, rfl, SqT.of h1, rfl, rfl, rfl, _, rfl, ?_⟩
      have k : Q (if T.pass n = true then .int n else .non) H := k
      refine iteB (fun e => ⟨_, rfl, ?_⟩) (fun e => ?_)
      · rw [show T.pass n = true from e] at k; exact k
      · rw [if_neg (fun z => e (by rw [z]; rfl))] at k; exact k
    | not T =>
      obtain ⟨l, h1, h2⟩ := hm
      refine ⟨_, rfl, a, _, _, _, rfl, rfl, SqT.of h1, rfl, rfl, _, rfl, iteN (by decide) ⟨_, rfl, a, _, _, _, rfl, rfl, SqT.of h1, rfl, rfl, _, rfl, iteN (by decide) ?_⟩⟩
      refine ⟨_, rfl, a, _, _, _, rfl, rfl, SqT.of h1, rfl, _, rfl, l, T, n, rfl, h2, ok, _, rfl, a, _, _, _, rfl, rfl, SqT.of h1, rfl, rfl, rfl, _, rfl, ?_⟩
      have k : Q (if T.pass n = true then .non else .int n) H := k
      refine iteB (fun e => ⟨_, rfl, ?_⟩) (fun e => ?_)
      · rw [show T.pass n = false from e] at k; exact k
      · rw [if_pos (by cases q : T.pass n with | true => rfl | false => exact absurd (q.trans rfl) e)] at k; exact k
end
end My
set_option Elab.async false
set_option linter.all false
set_option maxRecDepth 100000
set_option maxHeartbeats 8000000
namespace My
open PySem PySem.Spec PyProof.Rows L2
local macro_rules | `(tactic| walk_at "lv") => `(tactic| first | exact Or.inl rfl | exact Or.inr rfl)
/-! ### enumerate(tuple): made, gone through, ended -/
def enumO (it : Addr) : Obj := { cls := .type "enumerate", data := .fields #[.none, .bool false, .ref it, rawInt 0, .none, .none] }
set_option maxHeartbeats 2000000 in
theorem enum_made {v : Value} {o : Obj} {Hq : Heap → Prop} (B : Begins v o Hq) : Meets (Builtin.«enumerate.__new__» ⟨[.type "enumerate", v], []⟩) (fun _ R s => Hq s.heap ∧ R (.ok (.ret (.ref (s.heap.push o).objs.size))) { s with heap := (s.heap.push o).push (enumO s.heap.objs.size) }) := by
  refine .of_wp fun prog w A R s w0 => ?_
  obtain ⟨hp, gg, dd, tt, oo⟩ := s
  have sub := sub_enumerate
  have first : ∀ {A1 : Around} {E Q : Value → Shared → Prop}, Q (.ref hp.objs.size) ⟨hp.push o, gg, dd, tt, oo⟩ → wpAny (model prog w) A1 (pyIter v) Q E ⟨hp, gg, dd, tt, oo⟩ := fun k => B.iter prog w _ _ _ _ w0.1 k
  wp_walk using first
  refine wpAny_stack_any fun _ => wpAny_pure ?_
  have last := w0.2
  split
  · rename_i cl _ _ _ _ _
    generalize (cl == Value.type "enumerate") = same
    cases same <;> (wp_walk using first; exact ⟨_, rfl, last⟩)
  · wp_walk using first; exact ⟨_, rfl, last⟩
theorem call_enumT {prog : Program} {w : World} {A : Around} {E Q : Value → Shared → Prop} {s : Shared} {a : Addr} {its : Array Value} (ht : s.heap.IsTuple a its)
    (k : ∀ h', h'.get? (s.heap.objs.size + 1) = some (enumO s.heap.objs.size) → h'.IsTupleIter s.heap.objs.size a 0 → (∀ b o, s.heap.get? b = some o → h'.get? b = some o) → Q (.ref (s.heap.objs.size + 1)) { s with heap := h' }) : wpAny (model prog w) A (call (.type "enumerate") [.ref a]) Q E s := by
  have B := begins_tuple a its
  have n1 := Heap.size_push (h := s.heap) (o := ({ cls := .type "tuple_iterator", data := .fields #[.ref a, .int 0 0] } : Obj))
  refine callType_new PySem.F.called_enumerate (by decide) (PySem.F.typeCall_enumerate_1 _) (PySem.F.newCall_enumerate_1 _) (fun q => PySem.F.args_object_init_2 q _) PySem.F.entry_enumerate_new (enum_made B) ⟨ht, ?_⟩
  have top : (((s.heap.push _).push (enumO s.heap.objs.size)).get? (s.heap.objs.size + 1)) = some (enumO s.heap.objs.size) := n1 ▸ Heap.get?_push_size (s.heap.push _) rfl
  show _ ∧ _
  rw [n1]
  refine ⟨⟨_, top, rfl⟩, k _ top ⟨_, Heap.get?_push_of_some _ (Heap.get?_push_size _ B.free), rfl, rfl⟩ fun b o e => ?_⟩
  exact Heap.get?_push_of_some _ ((Heap.get?_push_of_some _) e)
/-- the tuple of N items at a, by enumerate -/
def IteT (K : PySem.W.Frag) (a : Addr) (N : Nat) : It where
  go i H := ∃ (xs : List V) (x : V), SqT K H a xs ∧ xs.length = N ∧ xs[i]? = some x
  yld i H v H' := ∃ T x, v = .ref T ∧ H T = none ∧ H' = upd H T (.tup [.int (i : Nat), x]) ∧ ∀ xs, SqT K H a xs → xs[i]? = some x
  stop i H := (∃ xs : List V, SqT K H a xs ∧ xs.length = N) ∧ N ≤ i
theorem cls_apart {h : Heap} {a b : Addr} {o o' : Obj} {x y : String} (h1 : h.get? a = some o) (h2 : h.get? b = some o') (c1 : o.cls = .type x) (c2 : o'.cls = .type y) (ne : x ≠ y) : a ≠ b := fun z => by
  subst z
  cases h1.symm.trans h2
  exact ne (Value.type.inj (c1.symm.trans c2))
section
variable {P : Program} {w : World} {K : PySem.W.Frag} {elts : List Expr} {kk : Nat} {tpos : Pos}
/-- the walk that the library knows of it, from the state before a step -/
theorem enumT_walk {X : Cx} {pins : List (Addr × Obj)} {σ : L2.St} {H : Hp} {s : Shared} {a e it : Addr} {i : Nat} {old : Value} (I : Inv X pins σ H s) (hc : X.calm = true) (ne : e ≠ it) (ti : s.heap.IsTupleIter it a i) (en : IsEnum s.heap e it (i : Int) old) {its : Array Value} (ht : s.heap.IsTuple a its) :
    WalksT X.prog X.w X.A e [e, it, a] [e, it] its.size (fun i vals => ∃ t x, its[i]? = some x ∧ vals = #[.int i t, x]) (fun i h => (∃ old, IsEnum h e it i old) ∧ h.IsTupleIter it a i ∧ h.IsTuple a its) (fun i T h => (∃ x, IsEnumOut h e it ((i : Int) + 1) x T) ∧ (h.IsTupleIter it a (i + 1) ∧ h.IsTuple a its) ∧ T ≠ e ∧ T ≠ it) := by
  obtain ⟨o1, g1, c1, _⟩ := ht
  obtain ⟨o2, g2, c2, _⟩ := ti
  have ai : a ≠ it := cls_apart g1 g2 c1 c2 (by decide)
  have ae : a ≠ e := cls_apart g1 en c1 rfl (by decide)
  refine WalksT.enumerateD (Draws.tuple (A := X.A.in1) (show X.A.in1.handled = none from I.ok.hd hc) it a ai its) e ne ?_ List.mem_cons_self
  simp only [List.mem_cons, List.not_mem_nil, or_false, not_or]
  exact ⟨ne, ae.symm⟩
theorem turn_enumT (a e it : Addr) (N : Nat) : Turn P w K (.Tuple elts kk tpos) (IteT K a N) [e, it] e (fun i h => ((e ≠ it ∧ i ≤ N) ∧ h.IsTupleIter it a i) ∧ ∃ old, IsEnum h e it (i : Int) old) where
  mem := List.mem_cons_self
  obj i h := by
    rintro ⟨⟨_, o, g, _, d⟩, old, en⟩ b hb
    rcases List.mem_cons.1 hb with z | hb
    · exact z ▸ ⟨_, en, fun _ => nofun⟩
    · exact List.mem_singleton.mp hb ▸ ⟨o, g, fun _ q => by cases d.symm.trans q⟩
  keep i h h' := by
    rintro ⟨⟨h1, o, g, r⟩, old, en⟩ k
    exact ⟨⟨h1, o, k it (List.mem_cons_of_mem _ List.mem_cons_self) o g, r⟩, old, k e List.mem_cons_self _ en⟩
  item := by
    rintro X rfl rfl rfl hc i pins s σ H E I hf ⟨⟨⟨ne, _⟩, ti⟩, old, en⟩ ⟨xs, x, sq, ln, ex⟩
    obtain ⟨its, rv, tp, _⟩ := I.tuple sq
    obtain ⟨u, eu, ru⟩ := rv.get ex
    have Wk := enumT_walk I hc ne ti en (its := its.toArray) tp
    obtain ⟨lu, _⟩ := List.getElem?_eq_some_iff.mp eu
    obtain ⟨lx, _⟩ := List.getElem?_eq_some_iff.mp ex
    refine Wk.item i s _ _ (by rw [List.size_toArray]; exact lu) ⟨⟨old, en⟩, ti, tp⟩ fun T vals h1 tk pv fresh hT mid k1 => ?_
    refine ⟨_, rfl, Wk.go elts kk tpos i T _ _ _ mid fun h2 st2 k2 => ?_⟩
    obtain ⟨t, y, ey, rfl⟩ := pv
    obtain rfl : y = u := Option.some.inj (ey.symm.trans (by rw [List.getElem?_toArray]; exact eu))
    obtain ⟨o, go_, co, m, d⟩ := hT
    have two : ObjOk X.prog X.w (upd H T (.tup [.int (i : Nat), x])) h2 T (.tup [.int (i : Nat), x]) := by
      refine ⟨(by decide : (2 : Nat) ≤ sizeLine), [.int i t, y], .cons ⟨t, rfl⟩ (.cons ru .nil), o, k2 T o ?_ go_, co, m, d⟩
      exact Wk.apart _ _ _ mid
    have J := I.turnedNew (t' := tk) (ch := [e, it]) (fun b o hb q => k2 b o hb (k1 b o hb q)) hf fresh two
    have none2 : ∀ b ∈ [e, it], upd H T (.tup [.int (i : Nat), x]) b = none := fun b hb => by
      have nT : b ≠ T := fun z => Wk.apart _ _ _ mid (z ▸ hb)
      rw [upd_ne nT]
      exact (hf b hb).1
    refine ⟨.ref T, _, J, rfl, ⟨T, x, rfl, I.hok.fresh fresh, rfl, fun ys q => ?_⟩, ⟨⟨⟨ne, by omega⟩, st2.2.1⟩, st2.1⟩, none2⟩
    exact I.tuple_inj q sq ▸ ex
  done := by
    rintro X rfl rfl rfl hc i pins s σ H E I hf ⟨⟨⟨ne, le⟩, ti⟩, old, en⟩ ⟨⟨xs, sq, ln⟩, ge⟩
    obtain ⟨its, rv, tp, _⟩ := I.tuple sq
    have Wk := enumT_walk I hc ne ti en (its := its.toArray) tp
    have li := rv.length
    have ei : its.toArray.size = i := by rw [List.size_toArray]; omega
    exact Wk.done s _ _ (ei ▸ ⟨⟨old, en⟩, ti, tp⟩) fun h' tk k => ⟨rfl, I.turnedL (ch := [e, it]) k hf⟩
  self _ i s Q E := by
    rintro ⟨_, old, en⟩ k
    exact wpAny_pyIter_enum en k
end
theorem walk_enumT {K : PySem.W.Frag} {a : Addr} {xs : List V} : Walk (IteT K a xs.length) xs.length (fun H => SqT K H a xs) (YPair (fun i => some (.int (i : Nat))) (fun i => xs[i]?)) where
  goes i H hi q := ⟨xs, xs[i], q, rfl, List.getElem?_eq_getElem hi⟩
  stops H q := ⟨⟨xs, q, rfl⟩, Nat.le_refl _⟩
  yields i H v H' _ q := by
    rintro ⟨T, x, h1, h2, h3, h4⟩
    exact ⟨T, _, x, h1, h2, h3, rfl, h4 xs q⟩
/-- enumerate of a list or a tuple -/
def iEnumA (_ : PySem.W.Frag) (ta : TA) : TI := fun σ H R => ta σ H fun vs H1 => ∃ a xs, vs = [.ref a] ∧ SqA H1 a xs ∧ ∀ J, Walk J xs.length (fun H' => H' a = H1 a) (YPair (fun i => some (.int (i : Nat))) (fun i => xs[i]?)) → R J H1
theorem pi_enumA {X : L2.Cx} {e : Expr} {ta : TA} {p pos tpos : Pos} {elts : List Expr} {kk : Nat} (hg : Gl X "enumerate") (hm : X.mg "enumerate" = none) (ha : PA X [e] ta) (hs : starEach [e] X.env = [(false, eval e X.env)] := by rfl) :
    PI X (.Tuple elts kk tpos) (.Call (.Name "enumerate" p) [e] [] pos) (iEnumA X.K ta) := by
  refine ⟨fun pins s σ H R I w0 => Call_ (ld_blt I hg hm boot_enumerate (PyProof.Rows.callWith_type1 (thn (ha.run pos pins s σ H _ I w0) fun us s1 got => ?_) hs rfl))⟩
  obtain ⟨vs, H1, I1, r1, a, xs, rfl, sq, q⟩ := got
  obtain ⟨u, rfl, ru⟩ := (vals1 r1)
  obtain rfl : u = .ref a := ru
  have late : ∀ b ∈ [s1.heap.objs.size + 1, s1.heap.objs.size], FpOk X pins H1 b := fun b hb => by
    have ge : s1.heap.objs.size ≤ b := by
      simp only [List.not_mem_nil, List.mem_cons, or_false] at hb
      rcases hb with rfl | rfl
      · exact Nat.le_succ _
      · exact Nat.le_refl _
    exact I1.fpOk ge (I1.hok.fresh ge)
  rcases sq with sq | sq
  · obtain ⟨its, rv, is, _⟩ := I1.list (SqL.of sq)
    refine call_enumerate_list is.isList fun h' en li _ k => wpAny_pyIter_enum en ?_
    have wk := (walk_enum (K := X.K) (a := a) (xs := xs)).mono (G' := fun H' => H' a = H1 a) (fun H' (z : H' a = H1 a) => SqL.of (z.trans sq)) fun _ _ _ _ _ _ y => y
    exact ⟨_, _, _, _, H1, rfl, I1.kept (t' := s1.toks) k, turn_enum a _ s1.heap.objs.size, ⟨⟨.none, en⟩, li, Nat.succ_ne_self _⟩, late, q _ wk⟩
  · obtain ⟨its, rv, is, _⟩ := I1.tuple (SqT.of sq)
    refine call_enumT (its := its.toArray) is fun h' en ti k => wpAny_pyIter_enum en ?_
    have wk := (walk_enumT (K := X.K) (a := a) (xs := xs)).mono (G' := fun H' => H' a = H1 a) (fun H' (z : H' a = H1 a) => SqT.of (z.trans sq)) fun _ _ _ _ _ _ y => y
    exact ⟨_, _, _, _, H1, rfl, I1.kept (t' := s1.toks) k, turn_enumT a _ s1.heap.objs.size xs.length, ⟨⟨⟨Nat.succ_ne_self _, Nat.zero_le _⟩, ti⟩, .none, en⟩, late, q _ wk⟩
end My
set_option Elab.async false
set_option linter.all false
set_option maxRecDepth 100000
set_option maxHeartbeats 8000000
namespace My
open PySem PySem.Spec PyProof.Rows L2
local macro_rules | `(tactic| walk_at "lv") => `(tactic| first | exact Or.inl rfl | exact Or.inr rfl)
section
variable {P : Program} {w : World} {K : PySem.W.Frag} {mg : Str → Option Value} {base : Heap}
theorem ki_BadMachine (F : AtI K "BadMachine" "BadMachine.__init__" (inClass (top 9) 0)) (T : ExF K mg "BadMachine" "BookError" ["what", "at"]) : KeepsI P w K mg base "BadMachine" ["what", "at"] := by
  refine ini_of F ⟨rfl, rfl, rfl, by decide +kernel, rfl, by decide +kernel, by decide +kernel⟩ (fun _ _ _ _ _ _ us hl => match us, hl with | [_, _, _], _ => rfl) (fun fd cdv A outer s H vs Q E h => ?_)
  obtain ⟨a, ys, rfl, hl, ha, k⟩ := h
  obtain ⟨y, z, rfl⟩ := two_of hl
  refine ⟨_, pss_cons (ps_ost (pv 0) (pv 1)) (pss_one (ps_ost (pv 0) (pv 2))), ?_⟩
  refine ⟨_, rfl, _, rfl, a, _, rfl, T.ox, T.no _ (by decide), .inl ⟨ha, fun d hd hne => ?_⟩⟩
  refine ⟨_, rfl, _, rfl, a, _, rfl, T.ox, T.no _ (by decide), .inr ⟨d, _, upd_same, (by rw [upd_ne hne, upd_same]), (by show 1 ≤ 900; decide), ?_⟩⟩
  refine k d _ hd hne ?_ upd_same fun b o hb e => ?_
  · rw [upd_ne hne.symm, upd_same]
  · rw [upd_ne (ne_of_none e hd), upd_ne hb, upd_ne (ne_of_none e hd)]
    exact e
/-- what is asked of BadMachine -/
structure ErrM (P : Program) (w : World) (K : PySem.W.Frag) (mg : Str → Option Value) (base : Heap) : Prop where
  xt : ExF K mg "BadMachine" "BookError" ["what", "at"]
  xi : KeepsI P w K mg base "BadMachine" ["what", "at"]
theorem pmk_bm {X : L2.Cx} {k : Nat} {e : Expr} {es : List Expr} {ta : TA} {p pos : Pos} (S : ErrM X.prog X.w X.K X.mg X.base) (hr : Room (k + 2) X.A) (hg : Gl X "BadMachine") (ha : PA X (e :: es) ta)
    (dbg : (("BadMachine" : Str) == ("__debug__" : Str)) = false := by decide) (hst : starEach (e :: es) X.env = (false, eval e X.env) :: starEach es X.env := by rfl) (hpl : (backTo pos (starEach es X.env)).any (·.1) = false := by rfl) :
    PMk X (.Call (.Name "BadMachine" p) (e :: es) [] pos) (tMkO (He.ga X.K "BadMachine") (spIni (He.ga X.K "BadMachine") ["what", "at"]) [] ta) := by
  obtain ⟨fd, F, b⟩ := S.xi
  obtain ⟨iC, tI⟩ := S.xt.ini (fun z => nomatch z)
  exact pmk_oex S.xt.ox iC tI F (hr.mono (by omega)) b .nil pass0 hg S.xt.g ha dbg hst hpl
/-- the reading of the making, with the way out -/
theorem mko_ok {K : PySem.W.Frag} {C : Addr} {fs : List Str} {ta : TA} {σ : L2.St} {H : Hp} {W : XK} {ys : List V} (ht : ∀ Q : List V → Hp → Prop, Q ys H → ta σ H Q) (hl : ys.length = fs.length) (h9 : ys.length ≤ 1000)
    (hW : ∀ d H', Same H H' → H' d = some (.xd (fs.zip ys).reverse) → W (.ref C) (some d) H') : tMkO C (spIni C fs) [] ta σ H W := by
  refine ht _ ⟨h9, fun a ha => ⟨a, ys, (by rw [List.append_nil]), hl, upd_same, fun d H' hd hne e1 e2 k1 => ⟨rfl, d, _, e1, e2, ?_, ?_⟩⟩⟩
  · rw [upd_ne hne] at hd
    exact hd
  · refine hW d _ (fun b o z => ?_) upd_same
    have nba : b ≠ a := ne_of_none z ha
    have nbd : b ≠ d := fun q => by
      rw [upd_ne hne] at hd
      rw [q, hd] at z
      cases z
    rw [upd_ne nbd, del_ne nba]
    exact k1 b o nba (by rw [upd_ne nba]; exact z)
/-- BadMachine(z, i) goes out -/
def OutM (K : PySem.W.Frag) (E : XK) (H : Hp) (z : Str) (i : Int) : Prop := ∀ d H', Same H H' → H' d = some (.xd [("at", .int i), ("what", .str z)]) → E (.ref (He.ga K "BadMachine")) (some d) H'
theorem OutM.same {E : XK} {H H' : Hp} {z : Str} {i : Int} (s : Same H H') (h : OutM K E H z i) : OutM K E H' z i := fun d H2 s2 e => h d H2 (s.trans s2) e
theorem same_at {H H' : Hp} {D : Addr} {o : HO} (s : Same H H') (hD : H D = none) : Same H (upd H' D o) := fun b u e => by
  rw [upd_ne (ne_of_none e hD)]
  exact s b u e
/-! ### _is_start, _is_arrow -/
theorem lenIs_ok {m : Nat} {d : PyData} (h : lenIs m d = true) : ∃ ds, rowsOf d = some ds ∧ ds.length = m := by
  cases d with
  | list ds => exact ⟨ds, rfl, by have := of_decide_eq_true (show decide ((ds.length : Int) = m) = true from h); omega⟩
  | tuple ds => exact ⟨ds, rfl, by have := of_decide_eq_true (show decide ((ds.length : Int) = m) = true from h); omega⟩
  | _ => exact Bool.noConfusion h
theorem lenIs_no {m : Nat} {d : PyData} (h : lenIs m d = false) : ∀ ds, rowsOf d = some ds → ds.length ≠ m := by
  intro ds e hl
  cases d with
  | list xs => cases e; exact of_decide_eq_false (show decide ((ds.length : Int) = m) = false from h) (by omega)
  | tuple xs => cases e; exact of_decide_eq_false (show decide ((ds.length : Int) = m) = false from h) (by omega)
  | _ => cases e
def spIsS (f : Int → PyData → Bool) : Sp := fun vs H Q _ => ∃ (p : Addr) (n : Int) (x : V) (d : PyData), vs = [.int n, x] ∧ Tg p H x d ∧ ∀ H', Same H H' → Q (.bl (f n d)) H'
abbrev s_iss : Stmt := top 27
abbrev N_iss : List Str := ["stations", "start"]
theorem sc_iss : FnScope N_iss ["stations", "start"] (defScope s_iss) := ⟨rfl, rfl, rfl, by decide +kernel, rfl, by decide +kernel, by decide +kernel⟩
theorem kp_iss (F : At K mg "_is_start" s_iss) (mF : ∃ t, mg "FARTHEST_START" = some (.int 1000 t)) (Go : Keeps CX0 P w K mg base "is_sequence_of" 2 ["thing", "many"] (spSqo K)) (Gw : Keeps CX0 P w K mg base "is_whole_from" 2 ["thing", "low", "high"] (spWfT K)) :
    Keeps CX0 P w K mg base "_is_start" 3 ["stations", "start"] (spIsS isStart) := by
  refine keeps_of F sc_iss (fun _ _ _ _ _ _ us hl => match us, hl with | [_, _], _ => rfl) (fun vs H Q E h => ?_) (fun f cdv A outer s H vs Q E hr h => ?_)
  · obtain ⟨p, n, x, d, rfl, _⟩ := h
    rfl
  · obtain ⟨p, n, x, d, rfl, hx, k⟩ := h
    obtain ⟨tF, mF⟩ := mF
    refine ⟨_, (pss_one (ps_ret (pe_and (pe_k Go hr (by rfl) pass0 (pa_cons (pv 1) (pa_cons pe_int pa_nil))) (pe_and (pe_k Gw hr (by rfl) pass0 (pa_cons (pe_ix ix_any (pv 1) pe_int (fun _ _ => rfl)) (pa_cons pe_int (pa_cons (pe_op op_sub (pv 0) pe_int) pa_nil)))) (pe_one (pe_k Gw hr (by rfl) pass0 (pa_cons (pe_ix ix_any (pv 1) pe_int (fun _ _ => rfl)) (pa_cons (pe_un un_neg (pe_glob (v := .int 1000) (by rfl) mF ⟨_, rfl⟩)) (pa_cons (pe_glob (v := .int 1000) (by rfl) mF ⟨_, rfl⟩) pa_nil))))))))), ?_⟩
    refine ⟨_, rfl, p, x, d, 2, rfl, hx.th, fun H1 s1 => ⟨_, rfl, ?_⟩⟩
    have k1 := k H1 s1
    have hx1 := hx.same s1
    cases e : lenIs 2 d with
    | false =>
      refine iteF ?_
      have z : isStart n d = false := by
        unfold isStart
        split
        · rename_i a b er
          exact absurd rfl (lenIs_no (m := 2) e _ er)
        · rfl
      rw [z] at k1
      exact k1
    | true =>
      obtain ⟨ds, er, hl⟩ := lenIs_ok (m := 2) e
      obtain ⟨a, b, rfl⟩ : ∃ a b, ds = [a, b] := match ds, hl with | [a, b], _ => ⟨a, b, rfl⟩
      obtain ⟨q, xs, rfl, sq, tg⟩ := hx1.rows er
      cases tg with
      | @cons x0 _ _ _ t0 tr =>
      cases tr with
      | @cons x1 _ _ _ t1 tn =>
      cases tn
      have z : isStart n d = (wDd 0 (n - 1) a && wDd (-1000) 1000 b) := by unfold isStart; rw [er]
      rw [z] at k1
      refine iteT ⟨_, rfl, ixA_of sq at_head ⟨_, rfl, _, _, rfl, rfl, x0, a, 0, n - 1, rfl, t0.dp, _, rfl, ?_⟩⟩
      cases e2 : wDd 0 (n - 1) a with
      | false => rw [e2] at k1; exact iteF k1
      | true =>
        rw [e2] at k1
        exact iteT ⟨_, rfl, ixA_of sq rfl ⟨_, rfl, x1, b, -1000, 1000, rfl, t1.dp, k1⟩⟩
abbrev s_isa : Stmt := top 29
abbrev N_isa : List Str := ["stations", "arrow"]
theorem sc_isa : FnScope N_isa ["stations", "arrow"] (defScope s_isa) := ⟨rfl, rfl, rfl, by decide +kernel, rfl, by decide +kernel, by decide +kernel⟩
theorem kp_isa (F : At K mg "_is_arrow" s_isa) (Go : Keeps CX0 P w K mg base "is_sequence_of" 2 ["thing", "many"] (spSqo K)) (Gw : Keeps CX0 P w K mg base "is_whole_from" 2 ["thing", "low", "high"] (spWfT K)) (Gm : Keeps CX0 P w K mg base "fits_move" 4 ["move"] (spFitT K fmT)) :
    Keeps CX0 P w K mg base "_is_arrow" 5 ["stations", "arrow"] (spIsS isArrow) := by
  refine keeps_of F sc_isa (fun _ _ _ _ _ _ us hl => match us, hl with | [_, _], _ => rfl) (fun vs H Q E h => ?_) (fun f cdv A outer s H vs Q E hr h => ?_)
  · obtain ⟨p, n, x, d, rfl, _⟩ := h
    rfl
  · obtain ⟨p, n, x, d, rfl, hx, k⟩ := h
    have h2 : Room 2 (A.deeper (envOfC "_is_arrow" (defScope s_isa) s.heap.objs.size f cdv)) := hr.mono (by decide)
    refine ⟨_, (pss_one (ps_ret (pe_and (pe_k Go h2 (by rfl) pass0 (pa_cons (pv 1) (pa_cons pe_int pa_nil))) (pe_and (pe_k Gw h2 (by rfl) pass0 (pa_cons (pe_ix ix_any (pv 1) pe_int (fun _ _ => rfl)) (pa_cons pe_int (pa_cons (pe_op op_sub (pv 0) pe_int) pa_nil)))) (pe_and (pe_k Gm hr (by rfl) pass0 (pa_cons (pe_ix ix_any (pv 1) pe_int (fun _ _ => rfl)) pa_nil)) (pe_one (pe_k Gw h2 (by rfl) pass0 (pa_cons (pe_ix ix_any (pv 1) pe_int (fun _ _ => rfl)) (pa_cons pe_int (pa_cons (pe_op op_sub (pv 0) pe_int) pa_nil)))))))))), ?_⟩
    refine ⟨_, rfl, p, x, d, 3, rfl, hx.th, fun H1 s1 => ⟨_, rfl, ?_⟩⟩
    have k1 := k H1 s1
    have hx1 := hx.same s1
    cases e : lenIs 3 d with
    | false =>
      refine iteF ?_
      have z : isArrow n d = false := by
        unfold isArrow
        split
        · rename_i a b c er
          exact absurd rfl (lenIs_no (m := 3) e _ er)
        · rfl
      rw [z] at k1
      exact k1
    | true =>
      obtain ⟨ds, er, hl⟩ := lenIs_ok (m := 3) e
      obtain ⟨a, b, c, rfl⟩ : ∃ a b c, ds = [a, b, c] := match ds, hl with | [a, b, c], _ => ⟨a, b, c, rfl⟩
      obtain ⟨q, xs, rfl, sq, tg⟩ := hx1.rows er
      cases tg with
      | @cons x0 _ _ _ t0 tr =>
      cases tr with
      | @cons x1 _ _ _ t1 tr =>
      cases tr with
      | @cons x2 _ _ _ t2 tn =>
      cases tn
      have z : isArrow n d = (wDd 0 (n - 1) a && (fmT b && wDd 0 (n - 1) c)) := by unfold isArrow; rw [er]
      rw [z] at k1
      refine iteT ⟨_, rfl, ixA_of sq at_head ⟨_, rfl, _, _, rfl, rfl, x0, a, 0, n - 1, rfl, t0.dp, _, rfl, ?_⟩⟩
      cases e2 : wDd 0 (n - 1) a with
      | false => rw [e2] at k1; exact iteF k1
      | true =>
        rw [e2] at k1
        refine iteT ⟨_, rfl, ixA_of sq rfl ⟨p, x1, b, rfl, t1, fun H2 s2 => ⟨_, rfl, ?_⟩⟩⟩
        have k2 := k H2 (s1.trans s2)
        rw [z, e2] at k2
        cases e3 : fmT b with
        | false => rw [e3] at k2; exact iteF k2
        | true =>
          rw [e3] at k2
          exact iteT ⟨_, rfl, ixA_of (sq.same s2) rfl ⟨_, rfl, _, _, rfl, rfl, x2, c, 0, n - 1, rfl, (t2.same s2).dp, k2⟩⟩
end
end My
set_option Elab.async false
set_option linter.all false
set_option maxRecDepth 100000
set_option maxHeartbeats 8000000
namespace My
open PySem PySem.Spec PyProof.Rows L2
local macro_rules | `(tactic| walk_at "lv") => `(tactic| first | exact Or.inl rfl | exact Or.inr rfl)
/-- (a, b, ..) = a list or a tuple of that length -/
def gTupA (n : Nat) (t : TGs) : TG := fun v σ H Q => ∃ a xs, v = .ref a ∧ SqA H a xs ∧ xs.length = n ∧ t xs σ H Q
theorem pg_tupA {X : L2.Cx} {pos : Pos} {es : List Expr} {k : Nat} {t : TGs} {n : Nat} (hc : X.calm = true) (h : PGs X es t)
    (hn : (assignEach es X.env).length = n := by rfl) (hst : (assignEach es X.env).findIdx? (·.1) = none := by rfl) : PG X (.Tuple es k pos) (gTupA n t) := by
  refine ⟨fun pins s σ H v u Q I r ww => ?_⟩
  obtain ⟨a, xs, e1, hq, hl, hw⟩ := ww
  rcases hq with hq | hq
  · exact (pg_unl hc h hn hst).run pins s σ H v u Q I r ⟨a, xs, e1, SqL.of hq, hl, hw⟩
  · exact (pg_tup hc h hn hst).run pins s σ H v u Q I r ⟨a, xs, e1, SqT.of hq, hl, hw⟩
/-- a row of things is checked and told -/
def ChkEnd (K : PySem.W.Frag) (E : XK) (H : Hp) (Q : VK) (f : PyData → Bool) (most : Nat) (z : Str) (D : List PyData → PyData) (d : PyData) : Prop :=
  (rowsOf d = none → OutM K E H z (-1)) ∧ (∀ ds, rowsOf d = some ds → most < ds.length → OutM K E H z (-1)) ∧
  (∀ ds (i : Nat) e, rowsOf d = some ds → ds.length ≤ most → ds[i]? = some e → f e = false → (∀ (j : Nat) e', j < i → ds[j]? = some e' → f e' = true) → OutM K E H z i) ∧
  (∀ ds, rowsOf d = some ds → ds.length ≤ most → (∀ e ∈ ds, f e = true) → ∀ a H', Same H H' → Im H' (.ref a) (D ds) → Q (.ref a) H')
/-- tuple(x), as a reading that does not name where it stands -/
def rTupOf (K : PySem.W.Frag) : List V → Hp → VK → Prop := fun xs H Q => ∃ p ys, xs = [.ref p] ∧ ((SqL K H p ys ∧ ∀ l, H l = none → Q (.ref l) (upd H l (.tup ys))) ∨ (SqT K H p ys ∧ Q (.ref p) H))
theorem Same.new2 {H H' : Hp} {p : Addr} {o : HO} (s : Same H H') (hp : H' p = none) : Same H (upd H' p o) := same_new s hp
section
variable {P : Program} {w : World} {K : PySem.W.Frag} {mg : Str → Option Value} {base : Heap}
def spChkR (K : PySem.W.Frag) (f : Int → PyData → Bool) (most : Nat) (z : Str) (D : List PyData → PyData) : Sp := fun vs H Q E => ∃ (p : Addr) (n : Int) (x : V) (d : PyData), vs = [.int n, x] ∧ Tg p H x d ∧ ChkEnd K E H Q (f n) most z D d
def startsOf (ds : List PyData) : PyData := startsD (ds.map stOf)
def arrowsOf (ds : List PyData) : PyData := arrowsD (ds.map arOf)
theorem im_all_kt {H H' : Hp} {xs : List V} {ds : List PyData} (k : Kt H H') (h : ImAll H xs ds) : ImAll H' xs ds := ImAll.kt k _ _ h
abbrev s_cs : Stmt := top 26
abbrev N_cs : List Str := ["stations", "starts", "at", "start"]
theorem sc_cs : FnScope N_cs ["stations", "starts"] (defScope s_cs) := ⟨rfl, rfl, rfl, by decide +kernel, rfl, by decide +kernel, by decide +kernel⟩
theorem tgAll_at {p : Addr} {H : Hp} {xs : List V} {ds : List PyData} {i : Nat} {x : V} (h : TgAll p H xs ds) (e : xs[i]? = some x) : ∃ d, ds[i]? = some d ∧ Tg p H x d := by
  have hl := h.len
  obtain ⟨hi, _⟩ := List.getElem?_eq_some_iff.mp e
  have e2 : ds[i]? = some (ds[i]'(by omega)) := List.getElem?_eq_getElem _
  obtain ⟨y, h1, h2⟩ := h.get e2
  rw [h1] at e
  cases e
  exact ⟨_, e2, h2⟩
theorem take_snoc {α : Type} {l : List α} {i : Nat} {x : α} (e : l[i]? = some x) : l.take (i + 1) = l.take i ++ [x] := by
  rw [List.take_add_one, e]
  rfl
theorem kp_cs (F : At K mg "_checked_starts" s_cs) (N : Nb mg) (S : ErrM P w K mg base) (mMOST_STARTS : ∃ t, mg "MOST_STARTS" = some (.int 60 t)) (Gs : Keeps CX0 P w K mg base "is_sequence" 1 ["thing"] (spSeqT K)) (Gi : Keeps CX0 P w K mg base "_is_start" 3 ["stations", "start"] (spIsS isStart)) :
    Keeps (CX P w) P w K mg base "_checked_starts" 4 ["stations", "starts"] (spChkR K isStart 60 "starts" startsOf) := by
  refine keeps_ofX F sc_cs (fun _ _ _ _ _ _ us hl => match us, hl with | [_, _], _ => rfl) (fun vs H Q E h => ?_) (fun f cdv A outer s H vs Q E hr h => ?_)
  · obtain ⟨p, n, x, d, rfl, _⟩ := h
    rfl
  · obtain ⟨p, n, x, d, rfl, hx, k1, k2, k3, k4⟩ := h
    obtain ⟨tS, mMOST_STARTS⟩ := mMOST_STARTS
    have h1 : Room 1 (A.deeper (envOfC "_checked_starts" (defScope s_cs) s.heap.objs.size f cdv)) := hr.mono (by decide)
    refine ⟨_, (pss_cons (ps_if (PW.pt (pw_or (pt_not (pt_val (pe_k Gs h1 (by rfl) pass0 (pa_cons (pv 1) pa_nil)))) (pw_or1 (pt_cmpR op_gt (pe_callB call_len_seq (by rfl) N.len (by decide +kernel) (pa_cons (pv 1) pa_nil)) (pe_glob (v := .int 60) (by rfl) mMOST_STARTS ⟨_, rfl⟩) (nomark _))))) (pss_one (ps_raise rfl (takes_of rfl rfl rfl rfl) (by exact pmk_bm S hr (by rfl) (pa_cons pe_str (pa_cons (pe_un un_neg pe_int) pa_nil))))) pss_nil)
        (pss_cons (ps_for (passes_of rfl) rfl (pi_enumA (by rfl) N.enumerate (pa_cons (pv 1) pa_nil)) (pg_tup (by rfl) (pgs_cons (pg_name (i := 2) sc_cs.nd rfl (by walk_at "lv")) (pgs_cons (pg_name (i := 3) sc_cs.nd rfl (by walk_at "lv")) pgs_nil))) (pss_one (ps_if (pt_not (pt_val (pe_k Gi hr (by rfl) pass0 (pa_cons (pv 0) (pa_cons (pv 3) pa_nil))))) (pss_one (ps_raise rfl (takes_of rfl rfl rfl rfl) (by exact pmk_bm S hr (by rfl) (pa_cons pe_str (pa_cons (pv 2) pa_nil))))) pss_nil)))
        (pss_one (ps_ret (pe_callTy call_tuple_of (by rfl) N.tuple (by decide +kernel) (pa_cons (pe_lc (own := [("start", 3)]) (g := gName 3) (tt := tYes) rfl sc_cs.nd (pi_seqV (pv 1)) (blkOk_by (N := N_cs) (sc := defScope s_cs) (by decide +kernel)) (fun _ _ _ _ _ => (pg_name (i := 3) sc_cs.nd rfl (by walk_at "lv"))) (fun _ _ _ _ _ => pts_nil) (fun _ _ _ _ _ => (pe_callTy (T := "tuple") (r := rTupOf K) call_tuple_of (by rfl) N.tuple (by decide +kernel) (pa_cons (pv 3) pa_nil)))) pa_nil)))))), ?_⟩
    refine ⟨_, rfl, p, x, d, rfl, hx.th, fun H1 s1 => ⟨_, rfl, ?_⟩⟩
    rw [isSq_rows]
    have hx1 := hx.same s1
    have boom : ∀ {ta : TA} {σ : L2.St} {H2 : Hp} {i : Int}, Same H H2 → OutM K E H "starts" i → (∀ Q : List V → Hp → Prop, Q [.str "starts", .int i] H2 → ta σ H2 Q) → tMkO (He.ga K "BadMachine") (spIni (He.ga K "BadMachine") ["what", "at"]) [] ta σ H2 (fun cls d H' => E cls d H') := fun s2 o ht =>
      mko_ok (K := K) ht rfl (by show 2 ≤ 1000; decide) fun dd H' s3 ed => o dd H' (s2.trans s3) ed
    cases er : rowsOf d with
    | none => exact iteT (iteT (boom s1 (k1 er) fun _ q => ⟨_, rfl, q⟩))
    | some ds =>
      obtain ⟨a, xs, rfl, sq, tg⟩ := hx1.rows er
      have ln := tg.len
      refine iteF ⟨_, rfl, a, xs, rfl, lenA sq, _, _, rfl, rfl, _, rfl, ?_⟩
      refine ite2 (fun hm => ?_) (fun hm => ?_)
      · have hm := of_decide_eq_true hm
        exact boom s1 (k2 ds er (by omega)) fun _ q => ⟨_, rfl, q⟩
      · have hm : ¬ (60 : Int) < (xs.length : Int) := fun z => hm (decide_eq_true z)
        refine ⟨_, rfl, a, xs, rfl, sq, fun J hw => for_it hw (fun i σ H2 => ∃ y z : Option V, σ = [some (.int n), some (.ref a), y, z] ∧ Same H1 H2 ∧ ∀ (j : Nat) e, j < i → ds[j]? = some e → isStart n e = true) ⟨_, _, rfl, Same.refl _, fun j e hj => absurd hj (Nat.not_lt_zero _)⟩ (fun i σ H2 _ ⟨_, _, _, s2, _⟩ => sq.keep s2) ?_ ?_⟩
        · rintro i v σ H2 H3 hi ⟨y, z, rfl, s2, good⟩ ⟨T, y1, x1, rfl, hT, rfl, e1, e2⟩
          cases e1
          obtain ⟨e, he, te⟩ := tgAll_at tg e2
          have s3 := same_new (o := .tup [V.int (i : Nat), x1]) s2 hT
          refine ⟨T, _, rfl, SqT.of upd_same, rfl, _, _, rfl, _, _, rfl, rfl, ?_⟩
          refine ⟨_, rfl, _, rfl, p, n, x1, e, rfl, te.same s3, fun H4 s4 => ⟨_, rfl, ?_⟩⟩
          cases ee : isStart n e with
          | false => exact iteT (boom ((s1.trans s3).trans s4) (k3 ds i e er (by omega) he ee good) fun _ q => ⟨_, rfl, q⟩)
          | true =>
            refine iteF ⟨_, _, rfl, s3.trans s4, fun j e' hj he' => ?_⟩
            rcases Nat.lt_succ_iff_lt_or_eq.mp hj with hj | rfl
            · exact good j e' hj he'
            · rw [he] at he'; cases he'; exact ee
        · rintro σ H2 ⟨y, z, rfl, s2, good⟩
          have all : ∀ e ∈ ds, isStart n e = true := fun e he => by
            obtain ⟨j, hj, ej⟩ := List.mem_iff_getElem.mp he
            exact good j e (by omega) (by rw [List.getElem?_eq_getElem hj, ej])
          have sq2 := sq.same s2
          refine ⟨a, xs, rfl, sq2, fun J2 hw2 D hD => lc_it hw2 (fun i H3 => Same H2 H3 ∧ ∃ acc, H3 D = some (.lst acc) ∧ ImAll H3 acc (((ds.take i).map stOf).map stD)) ⟨same_new (Same.refl H2) hD, [], upd_same, .nil⟩ (fun i H3 _ h => sq2.keep h.1) ?_ ?_⟩
          · rintro i v H3 H4 hi ⟨s3, acc, e3, im⟩ ⟨rfl, e4⟩
            obtain ⟨e, he, te⟩ := tgAll_at tg e4
            have good := isStart_ok (all e (List.mem_of_getElem? he))
            obtain ⟨b, ys, rfl, sqb, tb⟩ := (te.same (s2.trans s3)).rows good.1
            obtain rfl : ys = [.int (stOf e).1, .int (stOf e).2] := by
              cases tb with | cons h1 r => cases h1; cases r with | cons h2 r => cases h2; cases r; rfl
            have fin : ∀ q H5, Same H4 H5 → H5 q = some (.tup [.int (stOf e).1, .int (stOf e).2]) → ∃ acc', H5 D = some (.lst acc') ∧ acc'.length < sizeLine ∧ (Same H2 (upd H5 D (.lst (acc' ++ [.ref q]))) ∧ ∃ acc2, upd H5 D (.lst (acc' ++ [.ref q])) D = some (.lst acc2) ∧ ImAll (upd H5 D (.lst (acc' ++ [.ref q]))) acc2 (((ds.take (i + 1)).map stOf).map stD)) := fun q H5 s5 e5 => by
              have e6 := s5 _ _ e3
              have la := im.len
              rw [List.length_map, List.length_map, List.length_take] at la
              refine ⟨acc, e6, smallB (by omega), same_at (s3.trans s5) hD, _, upd_same, ?_⟩
              rw [take_snoc he, List.map_append, List.map_append]
              have kt : Kt H4 (upd H5 D (.lst (acc ++ [.ref q]))) := (Kt.of s5).trans (Kt.lst e6)
              exact (im_all_kt kt im).snoc (.tup ((Kt.lst e6).1 _ _ e5) (.cons (.int _) (.cons (.int _) .nil)))
            refine ⟨rfl, _, rfl, ?_⟩
            rcases sqb with e5 | e5
            · exact ⟨b, _, rfl, .inl ⟨SqL.of e5, fun l hl => fin l _ (same_new (Same.refl H4) hl) upd_same⟩⟩
            · exact ⟨b, _, rfl, .inr ⟨SqT.of e5, fin b _ (Same.refl H4) e5⟩⟩
          · rintro H3 ⟨s3, acc, e3, im⟩
            refine ⟨D, acc, rfl, .inl ⟨SqL.of e3, fun l hl => k4 ds er (by omega) all l _ (same_new ((s1.trans s2).trans s3) hl) ?_⟩⟩
            rw [ln, List.take_length] at im
            exact .tup upd_same (im_all_kt (Kt.of (same_new (Same.refl H3) hl)) im)
end
end My
set_option Elab.async false
set_option linter.all false
set_option maxRecDepth 100000
set_option maxHeartbeats 8000000
namespace My
open PySem PySem.Spec PyProof.Rows L2
local macro_rules | `(tactic| walk_at "lv") => `(tactic| first | exact Or.inl rfl | exact Or.inr rfl)
theorem passE {P : Program} {w : World} {X : L2.Cx} : Passes (CX P w) X E0 := fun _ _ _ _ _ _ _ c => by
  obtain ⟨_, _, _, _, _, _, _, _, _, _, _, _, z⟩ := c
  exact z.elim
section
variable {P : Program} {w : World} {K : PySem.W.Frag} {mg : Str → Option Value} {base : Heap}
abbrev s_ca : Stmt := top 28
abbrev N_ca : List Str := ["stations", "arrows", "at", "arrow", "origin", "move", "target"]
theorem sc_ca : FnScope N_ca ["stations", "arrows"] (defScope s_ca) := ⟨rfl, rfl, rfl, by decide +kernel, rfl, by decide +kernel, by decide +kernel⟩
theorem kp_ca (F : At K mg "_checked_arrows" s_ca) (N : Nb mg) (S : ErrM P w K mg base) (mMOST_ARROWS : ∃ t, mg "MOST_ARROWS" = some (.int 4000 t)) (Gs : Keeps CX0 P w K mg base "is_sequence" 1 ["thing"] (spSeqT K)) (Gi : Keeps CX0 P w K mg base "_is_arrow" 5 ["stations", "arrow"] (spIsS isArrow))
    (Gm : Keeps (CX P w) P w K mg base "check_move" 5 ["move"] (spCm K)) : Keeps (CX P w) P w K mg base "_checked_arrows" 6 ["stations", "arrows"] (spChkR K isArrow 4000 "arrows" arrowsOf) := by
  refine keeps_ofX F sc_ca (fun _ _ _ _ _ _ us hl => match us, hl with | [_, _], _ => rfl) (fun vs H Q E h => ?_) (fun f cdv A outer s H vs Q E hr h => ?_)
  · obtain ⟨p, n, x, d, rfl, _⟩ := h
    rfl
  · obtain ⟨p, n, x, d, rfl, hx, k1, k2, k3, k4⟩ := h
    obtain ⟨tS, mMOST_ARROWS⟩ := mMOST_ARROWS
    have h1 : Room 1 (A.deeper (envOfC "_checked_arrows" (defScope s_ca) s.heap.objs.size f cdv)) := hr.mono (by decide)
    refine ⟨_, (pss_cons (ps_if (PW.pt (pw_or (pt_not (pt_val (pe_k Gs h1 (by rfl) pass0 (pa_cons (pv 1) pa_nil)))) (pw_or1 (pt_cmpR op_gt (pe_callB call_len_seq (by rfl) N.len (by decide +kernel) (pa_cons (pv 1) pa_nil)) (pe_glob (v := .int 4000) (by rfl) mMOST_ARROWS ⟨_, rfl⟩) (nomark _))))) (pss_one (ps_raise rfl (takes_of rfl rfl rfl rfl) (by exact pmk_bm S hr (by rfl) (pa_cons pe_str (pa_cons (pe_un un_neg pe_int) pa_nil))))) pss_nil)
        (pss_cons (ps_for (passes_of rfl) rfl (pi_enumA (by rfl) N.enumerate (pa_cons (pv 1) pa_nil)) (pg_tup (by rfl) (pgs_cons (pg_name (i := 2) sc_ca.nd rfl (by walk_at "lv")) (pgs_cons (pg_name (i := 3) sc_ca.nd rfl (by walk_at "lv")) pgs_nil))) (pss_one (ps_if (pt_not (pt_val (pe_k Gi hr (by rfl) pass0 (pa_cons (pv 0) (pa_cons (pv 3) pa_nil))))) (pss_one (ps_raise rfl (takes_of rfl rfl rfl rfl) (by exact pmk_bm S hr (by rfl) (pa_cons pe_str (pa_cons (pv 2) pa_nil))))) pss_nil)))
        (pss_one (ps_ret (pe_callTy call_tuple_of (by rfl) N.tuple (by decide +kernel) (pa_cons (pe_lc (own := [("origin", 4), ("move", 5), ("target", 6)]) (g := gTupA 3 (gCons (gName 4) (gCons (gName 5) (gCons (gName 6) gNil)))) (tt := tYes) rfl sc_ca.nd (pi_seqV (pv 1)) (blkOk_by (N := N_ca) (sc := defScope s_ca) (by decide +kernel)) (fun _ _ _ _ _ => (pg_tupA (by rfl) (pgs_cons (pg_name (i := 4) sc_ca.nd rfl (by walk_at "lv")) (pgs_cons (pg_name (i := 5) sc_ca.nd rfl (by walk_at "lv")) (pgs_cons (pg_name (i := 6) sc_ca.nd rfl (by walk_at "lv")) pgs_nil))))) (fun _ _ _ _ _ => pts_nil) (fun _ _ _ _ _ => (pe_tup (pa_cons (pv 4) (pa_cons (pe_k Gm hr (by rfl) (passE (P := P) (w := w)) (pa_cons (pv 5) pa_nil)) (pa_cons (pv 6) pa_nil)))))) pa_nil)))))), ?_⟩
    refine ⟨_, rfl, p, x, d, rfl, hx.th, fun H1 s1 => ⟨_, rfl, ?_⟩⟩
    rw [isSq_rows]
    have hx1 := hx.same s1
    have boom : ∀ {ta : TA} {σ : L2.St} {H2 : Hp} {i : Int}, Same H H2 → OutM K E H "arrows" i → (∀ Q : List V → Hp → Prop, Q [.str "arrows", .int i] H2 → ta σ H2 Q) → tMkO (He.ga K "BadMachine") (spIni (He.ga K "BadMachine") ["what", "at"]) [] ta σ H2 (fun cls d H' => E cls d H') := fun s2 o ht =>
      mko_ok (K := K) ht rfl (by show 2 ≤ 1000; decide) fun dd H' s3 ed => o dd H' (s2.trans s3) ed
    cases er : rowsOf d with
    | none => exact iteT (iteT (boom s1 (k1 er) fun _ q => ⟨_, rfl, q⟩))
    | some ds =>
      obtain ⟨a, xs, rfl, sq, tg⟩ := hx1.rows er
      have ln := tg.len
      refine iteF ⟨_, rfl, a, xs, rfl, lenA sq, _, _, rfl, rfl, _, rfl, ?_⟩
      refine ite2 (fun hm => ?_) (fun hm => ?_)
      · have hm := of_decide_eq_true hm
        exact boom s1 (k2 ds er (by omega)) fun _ q => ⟨_, rfl, q⟩
      · have hm : ¬ (4000 : Int) < (xs.length : Int) := fun z => hm (decide_eq_true z)
        refine ⟨_, rfl, a, xs, rfl, sq, fun J hw => for_it hw (fun i σ H2 => ∃ y z : Option V, σ = [some (.int n), some (.ref a), y, z, none, none, none] ∧ Same H1 H2 ∧ ∀ (j : Nat) e, j < i → ds[j]? = some e → isArrow n e = true) ⟨_, _, rfl, Same.refl _, fun j e hj => absurd hj (Nat.not_lt_zero _)⟩ (fun i σ H2 _ ⟨_, _, _, s2, _⟩ => sq.keep s2) ?_ ?_⟩
        · rintro i v σ H2 H3 hi ⟨y, z, rfl, s2, good⟩ ⟨T, y1, x1, rfl, hT, rfl, e1, e2⟩
          cases e1
          obtain ⟨e, he, te⟩ := tgAll_at tg e2
          have s3 := same_new (o := .tup [V.int (i : Nat), x1]) s2 hT
          refine ⟨T, _, rfl, SqT.of upd_same, rfl, _, _, rfl, _, _, rfl, rfl, ?_⟩
          refine ⟨_, rfl, _, rfl, p, n, x1, e, rfl, te.same s3, fun H4 s4 => ⟨_, rfl, ?_⟩⟩
          cases ee : isArrow n e with
          | false => exact iteT (boom ((s1.trans s3).trans s4) (k3 ds i e er (by omega) he ee good) fun _ q => ⟨_, rfl, q⟩)
          | true =>
            refine iteF ⟨_, _, rfl, s3.trans s4, fun j e' hj he' => ?_⟩
            rcases Nat.lt_succ_iff_lt_or_eq.mp hj with hj | rfl
            · exact good j e' hj he'
            · rw [he] at he'; cases he'; exact ee
        · rintro σ H2 ⟨y, z, rfl, s2, good⟩
          have all : ∀ e ∈ ds, isArrow n e = true := fun e he => by
            obtain ⟨j, hj, ej⟩ := List.mem_iff_getElem.mp he
            exact good j e (by omega) (by rw [List.getElem?_eq_getElem hj, ej])
          have sq2 := sq.same s2
          refine ⟨a, xs, rfl, sq2, fun J2 hw2 D hD => lc_it hw2 (fun i H3 => Same H2 H3 ∧ ∃ acc, H3 D = some (.lst acc) ∧ ImAll H3 acc (((ds.take i).map arOf).map Ar.d)) ⟨same_new (Same.refl H2) hD, [], upd_same, .nil⟩ (fun i H3 _ h => sq2.keep h.1) ?_ ?_⟩
          · rintro i v H3 H4 hi ⟨s3, acc, e3, im⟩ ⟨rfl, e4⟩
            obtain ⟨e, he, te⟩ := tgAll_at tg e4
            have good := isArrow_ok (all e (List.mem_of_getElem? he))
            obtain ⟨⟨m, er3, mt⟩, mok, _⟩ := good
            obtain ⟨b, ys, rfl, sqb, tb⟩ := (te.same (s2.trans s3)).rows er3
            obtain ⟨m1, rfl, tm⟩ : ∃ m1, ys = [.int (arOf e).o, m1, .int (arOf e).t] ∧ Tg p H4 m1 m := by
              cases tb with | cons h1 r => cases h1; cases r with | cons h2 r => cases r with | cons h3 r => cases h3; cases r; exact ⟨_, rfl, h2⟩
            have ef : fmT m = true := fmT_of mok mt
            have em : mvOf m = (arOf e).m := mvOf_of mt
            refine ⟨b, _, rfl, sqb, rfl, _, _, rfl, _, _, rfl, _, _, rfl, rfl, rfl, ?_⟩
            refine ⟨_, rfl, _, rfl, p, m1, m, rfl, tm, (fun z => absurd (z.symm.trans ef) Bool.false_ne_true), fun _ q H5 s5 im5 => ⟨_, rfl, (by show 3 ≤ sizeLine; decide), fun t ht => ?_⟩⟩
            rw [em] at im5
            have e6 := s5 _ _ e3
            have nD : D ≠ t := ne_of_none e6 ht
            have la := im.len
            rw [List.length_map, List.length_map, List.length_take] at la
            have s6 := same_new (o := .tup [V.int (arOf e).o, V.ref q, V.int (arOf e).t]) s5 ht
            have e7 := s6 _ _ e3
            refine ⟨acc, e7, smallB (by omega), same_at (s3.trans s6) hD, _, upd_same, ?_⟩
            rw [take_snoc he, List.map_append, List.map_append]
            have kt : Kt H4 (upd (upd H5 t (.tup [V.int (arOf e).o, V.ref q, V.int (arOf e).t])) D (.lst (acc ++ [.ref t]))) := (Kt.of s6).trans (Kt.lst e7)
            refine (im_all_kt kt im).snoc (.tup ((Kt.lst e7).1 _ _ upd_same) (.cons (.int _) (.cons ?_ (.cons (.int _) .nil))))
            exact Im.kt (Kt.lst e7) _ _ (Im.kt (Kt.of (same_new (Same.refl H5) ht)) _ _ im5)
          · rintro H3 ⟨s3, acc, e3, im⟩
            refine ⟨D, acc, rfl, .inl ⟨SqL.of e3, fun l hl => k4 ds er (by omega) all l _ (same_new ((s1.trans s2).trans s3) hl) ?_⟩⟩
            rw [ln, List.take_length] at im
            exact .tup upd_same (im_all_kt (Kt.of (same_new (Same.refl H3) hl)) im)
end
end My
set_option Elab.async false
set_option linter.all false
set_option maxRecDepth 100000
set_option maxHeartbeats 8000000
namespace My
open PySem PySem.Spec PyProof.Rows L2
local macro_rules | `(tactic| walk_at "lv") => `(tactic| first | exact Or.inl rfl | exact Or.inr rfl)
/-! ### what the moves tell -/
abbrev Td := Lt ⊕ Ts
def tdD : Td → PyData
  | .inl L => L.d
  | .inr T => T.d
def tdVs : Td → List V
  | .inl L => L.vs
  | .inr T => T.vs
def tdNums : Td → List Int
  | .inl (.set v) => [v]
  | .inl (.add v) => [v]
  | .inl .turn => []
  | .inl (.mod m) => [m]
  | .inr (.below v) => [v]
  | .inr (.is v) => [v]
  | .inr (.rest m r) => [m, r]
def Mv.told : Mv → List Td
  | .stay => []
  | .deed L => [.inl L]
  | .so T => [.inr T]
  | .not T => [.inr T]
def toldOf (rs : List Ar) : List Td := rs.flatMap fun r => r.m.told
theorem td_at {H : Hp} {x : V} {t : Td} (h : Im H x (tdD t)) : ∃ a, x = .ref a ∧ H a = some (.tup (tdVs t)) := by
  cases t with
  | inl L => obtain ⟨a, xs, rfl, _, _⟩ := (show Im H x L.d from h).ref; exact ⟨a, rfl, h.vals2⟩
  | inr T => obtain ⟨a, xs, rfl, _, _⟩ := (show Im H x T.d from h).ref; exact ⟨a, rfl, h.vals3⟩
theorem tdVs_nums (t : Td) : cutV (tdVs t) (some 1) none = (tdNums t).map V.int := by
  cases t with
  | inl L => cases L <;> rfl
  | inr T => cases T <;> rfl
theorem tdVs_len (t : Td) : 0 < (tdVs t).length ∧ (tdVs t).length ≤ 3 := by
  cases t with
  | inl L => cases L <;> exact ⟨Nat.le_of_ble_eq_true rfl, Nat.le_of_ble_eq_true rfl⟩
  | inr T => cases T <;> exact ⟨Nat.le_of_ble_eq_true rfl, Nat.le_of_ble_eq_true rfl⟩
theorem tdNums_len (t : Td) : (tdNums t).length ≤ 2 := by
  cases t with
  | inl L => cases L <;> exact Nat.le_of_ble_eq_true rfl
  | inr T => cases T <;> exact Nat.le_of_ble_eq_true rfl
theorem told_len : ∀ rs : List Ar, (toldOf rs).length ≤ rs.length
  | [] => Nat.le_refl 0
  | r :: rs => by
    have ih := told_len rs
    have : r.m.told.length ≤ 1 := by cases r.m <;> exact Nat.le_of_ble_eq_true rfl
    unfold toldOf at ih ⊢
    rw [List.flatMap_cons, List.length_append, List.length_cons]
    omega
theorem iteNe {x y : Str} {p q : Prop} (h1 : x = y → q) (h2 : x ≠ y → p) : if (!decide (V.str x = V.str y)) = true then p else q := by
  by_cases h : x = y
  · rw [if_neg (by rw [h, decide_eq_true rfl]; exact Bool.false_ne_true)]; exact h1 h
  · rw [if_pos (by rw [decide_eq_false fun z => h (V.str.inj z)]; rfl)]; exact h2 h
section
variable {P : Program} {w : World} {K : PySem.W.Frag} {mg : Str → Option Value} {base : Heap}
def spLat : Sp := fun vs H Q _ => ∃ (a : Addr) (xs : List V) (rs : List Ar), vs = [.ref a] ∧ H a = some (.tup xs) ∧ ImAll H xs (rs.map Ar.d) ∧ rs.length ≤ 4000 ∧ ∀ q ys H', H q = none → Same H H' → H' q = some (.lst ys) → ImAll H' ys ((toldOf rs).map tdD) → Q (.ref q) H'
abbrev s_lat : Stmt := top 30
abbrev N_lat : List Str := ["arrows", "moves", "arrow", "move"]
theorem sc_lat : FnScope N_lat ["arrows"] (defScope s_lat) := ⟨rfl, rfl, rfl, by decide +kernel, rfl, by decide +kernel, by decide +kernel⟩
theorem kp_lat (F : At K mg "_letters_and_tests" s_lat) : Keeps CX0 P w K mg base "_letters_and_tests" 1 ["arrows"] spLat := by
  refine keeps_of F sc_lat (fun _ _ _ _ _ _ us hl => match us, hl with | [_], _ => rfl) (fun vs H Q E h => ?_) (fun f cdv A outer s H vs Q E hr h => ?_)
  · obtain ⟨a, xs, rs, rfl, _⟩ := h
    rfl
  · obtain ⟨a, xs, rs, rfl, ha, im, hl, k⟩ := h
    refine ⟨_, (pss_cons (ps_setLc (i := 1) (own := [("arrow", 2)]) (g := gName 2) (tt := tYes) rfl sc_lat.nd rfl rfl (sw_true rfl rfl rfl (by decide +kernel)) (pi_seqV (pv 0)) (blkOk_by (N := N_lat) (sc := defScope s_lat) (by decide +kernel)) (fun _ _ _ _ _ => (pg_name (i := 2) sc_lat.nd rfl (by walk_at "lv"))) (fun _ _ _ _ _ => pts_nil) (fun _ _ _ _ _ => (pe_ix (r := rIxT K) ix_tup (pv 2) pe_int (fun _ _ => rfl))))
        (pss_one (ps_ret (pe_lc (own := [("move", 3)]) (g := gName 3) rfl sc_lat.nd (pi_seqV (pv 1)) (blkOk_by (N := N_lat) (sc := defScope s_lat) (by decide +kernel)) (fun _ _ _ _ _ => (pg_name (i := 3) sc_lat.nd rfl (by walk_at "lv"))) (fun _ _ _ _ _ => (pts_one (pt_cmpR op_ne (pe_ix (r := rIxT K) ix_tup (pv 3) pe_int (fun _ _ => rfl)) pe_str (nomark _)))) (fun _ _ _ _ _ => (pe_ix (r := rIxT K) ix_tup (pv 3) pe_int (fun _ _ => rfl))))))), ?_⟩
    have ln := im.len
    rw [List.length_map] at ln
    refine ⟨a, xs, rfl, .inr ha, fun J hw D hD => lc_it hw (fun i H3 => Same H H3 ∧ ∃ acc, H3 D = some (.lst acc) ∧ ImAll H3 acc ((rs.take i).map fun r => r.m.d)) ⟨same_new (Same.refl H) hD, [], upd_same, .nil⟩ (fun i H3 _ h => by rw [h.1 _ _ ha, ha]) ?_ ?_⟩
    · rintro i v H3 H4 hi ⟨s3, acc, e3, ia⟩ ⟨rfl, e4⟩
      obtain ⟨dd, e5, iv⟩ := im.get e4
      rw [List.getElem?_map] at e5
      obtain ⟨r, er, rfl⟩ := Option.map_eq_some_iff.mp e5
      obtain ⟨b, m, rfl, eb, mr⟩ := iv.ar
      have la := ia.len
      rw [List.length_map, List.length_take] at la
      refine ⟨rfl, _, rfl, b, _, _, _, rfl, rfl, SqT.of (s3 _ _ eb), rfl, acc, e3, smallB (by omega), same_at s3 hD, _, upd_same, ?_⟩
      rw [take_snoc er, List.map_append]
      have kt : Kt H4 (upd H4 D (.lst (acc ++ [.ref m]))) := Kt.lst e3
      exact (im_all_kt kt ia).snoc (Im.kt kt _ _ (Im.kt (Kt.of s3) _ _ (im_mv mr)))
    · rintro H3 ⟨s3, acc, e3, ia⟩
      rw [ln, List.take_length] at ia
      have la := ia.len
      rw [List.length_map] at la
      refine ⟨D, acc, rfl, .inl e3, fun J2 hw2 D2 hD2 => lc_it hw2 (fun i H5 => Same H3 H5 ∧ ∃ acc2, H5 D2 = some (.lst acc2) ∧ ImAll H5 acc2 ((toldOf (rs.take i)).map tdD)) ⟨same_new (Same.refl H3) hD2, [], upd_same, .nil⟩ (fun i H5 _ h => by rw [h.1 _ _ e3, e3]) ?_ ?_⟩
      · rintro i v H5 H6 hi ⟨s5, acc2, e6, ib⟩ ⟨rfl, e4⟩
        obtain ⟨dd, e5, iv⟩ := ia.get e4
        rw [List.getElem?_map] at e5
        obtain ⟨r, er, rfl⟩ := Option.map_eq_some_iff.mp e5
        obtain ⟨m, rfl, mr⟩ := iv.mv
        have lb := ib.len
        rw [List.length_map] at lb
        have l2 := told_len (rs.take i)
        rw [List.length_take] at l2
        have tk : toldOf (rs.take (i + 1)) = toldOf (rs.take i) ++ r.m.told := by
          unfold toldOf
          rw [take_snoc er, List.flatMap_append]
          simp
        have go : ∀ (t : Td) (l : Addr), r.m.told = [t] → H3 l = some (.tup (tdVs t)) → Im H3 (.ref l) (tdD t) → ∃ accx, H6 D2 = some (.lst accx) ∧ accx.length < sizeLine ∧ (Same H3 (upd H6 D2 (.lst (accx ++ [.ref l]))) ∧ ∃ acc3, upd H6 D2 (.lst (accx ++ [.ref l])) D2 = some (.lst acc3) ∧ ImAll (upd H6 D2 (.lst (accx ++ [.ref l]))) acc3 ((toldOf (rs.take (i + 1))).map tdD)) := fun t l et el il => by
          refine ⟨acc2, e6, smallB (by omega), same_at s5 hD2, _, upd_same, ?_⟩
          rw [tk, et, List.map_append]
          have kt : Kt H6 (upd H6 D2 (.lst (acc2 ++ [.ref l]))) := Kt.lst e6
          exact (im_all_kt kt ib).snoc (Im.kt kt _ _ (Im.kt (Kt.of s5) _ _ il))
        cases em : r.m with
        | stay =>
          rw [em] at mr
          refine ⟨rfl, _, rfl, m, _, _, _, rfl, rfl, SqT.of (s5 _ _ mr), rfl, rfl, _, rfl, iteNe (fun _ => ⟨s5, acc2, e6, ?_⟩) (fun z => absurd rfl z)⟩
          rw [tk, em]
          rw [show Mv.stay.told = [] from rfl, List.append_nil]
          exact ib
        | deed L =>
          rw [em] at mr go
          obtain ⟨l, e8, e9⟩ := mr
          exact ⟨rfl, _, rfl, m, _, _, _, rfl, rfl, SqT.of (s5 _ _ e8), rfl, rfl, _, rfl, iteNe (fun z => absurd z (by decide)) (fun _ => ⟨_, rfl, m, _, _, _, rfl, rfl, SqT.of (s5 _ _ e8), rfl, go (.inl L) l rfl e9 (im_lt e9)⟩)⟩
        | so L =>
          rw [em] at mr go
          obtain ⟨l, e8, e9⟩ := mr
          exact ⟨rfl, _, rfl, m, _, _, _, rfl, rfl, SqT.of (s5 _ _ e8), rfl, rfl, _, rfl, iteNe (fun z => absurd z (by decide)) (fun _ => ⟨_, rfl, m, _, _, _, rfl, rfl, SqT.of (s5 _ _ e8), rfl, go (.inr L) l rfl e9 (im_ts e9)⟩)⟩
        | not L =>
          rw [em] at mr go
          obtain ⟨l, e8, e9⟩ := mr
          exact ⟨rfl, _, rfl, m, _, _, _, rfl, rfl, SqT.of (s5 _ _ e8), rfl, rfl, _, rfl, iteNe (fun z => absurd z (by decide)) (fun _ => ⟨_, rfl, m, _, _, _, rfl, rfl, SqT.of (s5 _ _ e8), rfl, go (.inr L) l rfl e9 (im_ts e9)⟩)⟩
      · rintro H5 ⟨s5, acc2, e6, ib⟩
        rw [show acc.length = rs.length from la, List.take_length] at ib
        exact k D2 acc2 H5 (s3.free hD2) (s3.trans s5) e6 ib
end
end My
set_option Elab.async false
set_option linter.all false
set_option maxRecDepth 100000
set_option maxHeartbeats 8000000
namespace My
open PySem PySem.Spec PyProof.Rows L2
local macro_rules | `(tactic| walk_at "lv") => `(tactic| first | exact Or.inl rfl | exact Or.inr rfl)
/-! ### the rim -/
def ab (n : Int) : Int := if n < 0 then -n else n
theorem ab_nn (n : Int) : 0 ≤ ab n := by unfold ab; split <;> omega
def tNums (ts : List Td) : List Int := ts.flatMap fun t => (tdNums t).map ab
def rimNs (ss : List (Int × Int)) (ts : List Td) : List Int := ([1] ++ ss.map fun s => ab s.2) ++ tNums ts
def IsRim (ss : List (Int × Int)) (rs : List Ar) (r : Int) : Prop := r ∈ rimNs ss (toldOf rs) ∧ ∀ x ∈ rimNs ss (toldOf rs), x ≤ r
theorem IsRim.uniq {ss : List (Int × Int)} {rs : List Ar} {r r' : Int} (h : IsRim ss rs r) (h' : IsRim ss rs r') : r = r' := by
  have := h.2 _ h'.1
  have := h'.2 _ h.1
  omega
theorem IsRim.pos {ss : List (Int × Int)} {rs : List Ar} {r : Int} (h : IsRim ss rs r) : 1 ≤ r := h.2 1 (List.mem_append_left _ (List.mem_append_left _ (List.mem_singleton.mpr rfl)))
theorem tNums_len : ∀ ts : List Td, (tNums ts).length ≤ 2 * ts.length
  | [] => Nat.le_refl 0
  | t :: ts => by
    have ih := tNums_len ts
    have := tdNums_len t
    unfold tNums at ih ⊢
    rw [List.flatMap_cons, List.length_append, List.length_map, List.length_cons]
    omega
theorem tNums_snoc (ts : List Td) (t : Td) : tNums (ts ++ [t]) = tNums ts ++ (tdNums t).map ab := by
  unfold tNums
  rw [List.flatMap_append]
  simp
theorem iabs {K : PySem.W.Frag} {n : Int} {H : Hp} {Q : VK} (k : Q (.int (ab n)) H) : ∃ i, ([V.int n] : List V) = [.int i] ∧ Q (.int (if i < 0 then -i else i)) H := ⟨n, rfl, k⟩
section
variable {P : Program} {w : World} {K : PySem.W.Frag} {mg : Str → Option Value} {base : Heap}
def spRim : Sp := fun vs H Q _ => ∃ (a b : Addr) (xs ys : List V) (ss : List (Int × Int)) (rs : List Ar), vs = [.ref a, .ref b] ∧ SqA H a xs ∧ ImAll H xs (ss.map stD) ∧ SqA H b ys ∧ ImAll H ys (rs.map Ar.d) ∧ ss.length ≤ 60 ∧ rs.length ≤ 4000 ∧
  ∀ r H', IsRim ss rs r → Same H H' → Q (.int r) H'
def spRimT : Sp := fun vs H Q _ => ∃ (a b : Addr) (xs ys : List V) (ss : List (Int × Int)) (rs : List Ar), vs = [.ref a, .ref b] ∧ H a = some (.tup xs) ∧ ImAll H xs (ss.map stD) ∧ H b = some (.tup ys) ∧ ImAll H ys (rs.map Ar.d) ∧ ss.length ≤ 60 ∧ rs.length ≤ 4000 ∧
  ∀ r H', IsRim ss rs r → Same H H' → Q (.int r) H'
abbrev s_rim : Stmt := top 31
abbrev N_rim : List Str := ["starts", "arrows", "sizes", "told", "start", "number"]
theorem sc_rim : FnScope N_rim ["starts", "arrows"] (defScope s_rim) := ⟨rfl, rfl, rfl, by decide +kernel, rfl, by decide +kernel, by decide +kernel⟩
theorem kp_rim (F : At K mg "_rim_of" s_rim) (N : Nb mg) (nMax : mg "max" = none) (Gl_ : Keeps CX0 P w K mg base "_letters_and_tests" 1 ["arrows"] spLat) : Keeps CX0 P w K mg base "_rim_of" 2 ["starts", "arrows"] spRimT := by
  refine keeps_of F sc_rim (fun _ _ _ _ _ _ us hl => match us, hl with | [_, _], _ => rfl) (fun vs H Q E h => ?_) (fun f cdv A outer s H vs Q E hr h => ?_)
  · obtain ⟨a, b, xs, ys, ss, rs, rfl, _⟩ := h
    rfl
  · obtain ⟨a, b, xs, ys, ss, rs, rfl, ha, ia, hb, ib, l1, l2, k⟩ := h
    refine ⟨_, (pss_cons (ps_set (i := 2) sc_rim.nd rfl (by walk_at "lv") (pe_lst (pa_cons pe_int pa_nil)))
        (pss_cons (ps_expr (pe_bm PySem.F.plainAttrs_list PySem.F.slot_list_extend PySem.F.type_list_extend mt_extend (pv 2) (pa_cons (pe_lc (own := [("start", 4)]) (g := gName 4) (tt := tYes) rfl sc_rim.nd (pi_seqV (pv 0)) (blkOk_by (N := N_rim) (sc := defScope s_rim) (by decide +kernel)) (fun _ _ _ _ _ => (pg_name (i := 4) sc_rim.nd rfl (by walk_at "lv"))) (fun _ _ _ _ _ => pts_nil) (fun _ _ _ _ _ => (pe_callB (id := "abs") call_abs (by rfl) N.abs (by decide +kernel) (pa_cons (pe_ix (r := rIxT K) ix_tup (pv 4) pe_int (fun _ _ => rfl)) pa_nil)))) pa_nil)))
        (pss_cons (ps_for PassesOwn.never rfl (pi_list (pe_k Gl_ hr (by rfl) pass0 (pa_cons (pv 1) pa_nil))) (pg_name (i := 3) sc_rim.nd rfl (by walk_at "lv")) (pss_one (ps_expr (pe_bm PySem.F.plainAttrs_list PySem.F.slot_list_extend PySem.F.type_list_extend mt_extend (pv 2) (pa_cons (pe_lc (own := [("number", 5)]) (g := gName 5) (tt := tYes) rfl sc_rim.nd (pi_tup (pe_slice sl_tup (pv 3) (po_some pe_int) po_none)) (blkOk_by (N := N_rim) (sc := defScope s_rim) (by decide +kernel)) (fun _ _ _ _ _ => (pg_name (i := 5) sc_rim.nd rfl (by walk_at "lv"))) (fun _ _ _ _ _ => pts_nil) (fun _ _ _ _ _ => (pe_callB (id := "abs") call_abs (by rfl) N.abs (by decide +kernel) (pa_cons (pv 5) pa_nil)))) pa_nil)))))
        (pss_one (ps_ret (pe_callB (cr_max (by rfl)) (by rfl) nMax (by decide +kernel) (pa_cons (pv 2) pa_nil))))))), ?_⟩
    have ln := ia.len
    rw [List.length_map] at ln
    refine ⟨(by show 1 ≤ sizeLine; decide), fun l hl => ?_⟩
    have s1 := same_new (o := .lst [V.int 1]) (Same.refl H) hl
    refine ⟨_, rfl, .inl ⟨rfl, _, SqL.of upd_same⟩, a, xs, rfl, .inr (s1 _ _ ha), fun J hw D hD => lc_it hw (fun i H3 => Same (upd H l (.lst [V.int 1])) H3 ∧ H3 D = some (.lst (((ss.take i).map fun s => ab s.2).map V.int))) ⟨same_new (Same.refl _) hD, upd_same⟩ (fun i H3 _ h => by rw [h.1 _ _ (s1 _ _ ha), s1 _ _ ha]) ?_ ?_⟩
    · rintro i v H3 H4 hi ⟨s3, e3⟩ ⟨rfl, e4⟩
      obtain ⟨dd, e5, iv⟩ := ia.get e4
      rw [List.getElem?_map] at e5
      obtain ⟨r, er, rfl⟩ := Option.map_eq_some_iff.mp e5
      obtain ⟨c, rfl, ec⟩ := iv.st
      refine ⟨rfl, _, rfl, c, _, _, _, rfl, rfl, SqT.of ((s1.trans s3) _ _ ec), rfl, r.2, rfl, _, e3, smallB (by rw [List.length_map, List.length_map, List.length_take]; omega), same_at s3 hD, ?_⟩
      rw [take_snoc er, List.map_append, List.map_append]
      exact upd_same
    · rintro H3 ⟨s3, e3⟩
      rw [ln, List.take_length] at e3
      have el := s3 _ _ (upd_same (H := H) (a := l) (o := .lst [V.int 1]))
      have s4 : Same H (upd H3 l (.lst (([1] ++ ss.map fun s : Int × Int => ab s.2).map V.int))) := same_at (s1.trans s3) hl
      refine ⟨l, D, [.int 1], _, rfl, rfl, el, e3, (by rw [List.length_map, List.length_map, sizeLine_eq]; show 1 + ss.length ≤ _; omega), ?_⟩
      refine ⟨_, rfl, b, ys, rs, rfl, s4 _ _ hb, im_all_kt (Kt.of s4) ib, l2, fun q zs H5 hq s5' e5 iz => ?_⟩
      have ql : q ≠ l := fun z => by
        rw [z, upd_same] at hq
        cases hq
      have s5 := s4.trans s5'
      have e5l : H5 l = some (.lst (([1] ++ ss.map fun s : Int × Int => ab s.2).map V.int)) := s5' _ _ upd_same
      have lz := iz.len
      rw [List.length_map] at lz
      have lt := told_len rs
      refine ⟨q, rfl, ⟨_, SqL.of e5⟩, for_it walk_list (fun i σ H6 => ∃ y : Option V, σ = [some (.ref a), some (.ref b), some (.ref l), y, none, none] ∧ Same H H6 ∧ Kt H5 H6 ∧ H6 q = some (.lst zs) ∧ H6 l = some (.lst ((([1] ++ ss.map fun s : Int × Int => ab s.2) ++ tNums ((toldOf rs).take i)).map V.int))) ⟨_, rfl, s5, Kt.refl _, e5, by rw [List.take_zero]; rw [show tNums [] = [] from rfl, List.append_nil]; exact e5l⟩ (fun i σ H6 _ ⟨_, _, _, _, e6, _⟩ => SqL.of e6) ?_ ?_⟩
      · rintro i v H6a H6b H6 hi ⟨y, rfl, s6, kt, e6, el6⟩ ⟨rfl, e7⟩
        obtain ⟨dd, e8, iv⟩ := iz.get e7
        rw [List.getElem?_map] at e8
        obtain ⟨t, et, rfl⟩ := Option.map_eq_some_iff.mp e8
        obtain ⟨c, rfl, ec⟩ := td_at iv
        have ec6 := kt.1 _ _ ec
        have tl := tdVs_len t
        refine ⟨_, rfl, .inl ⟨rfl, _, SqL.of el6⟩, _, rfl, 1, rfl, c, _, rfl, SqT.of ec6, (fun z => ?_), fun t2 ht2 => ?_⟩
        · have tl1 := tl.1
          have e : HT.sIx (tdVs t).length 0 (some 1) = 1 := by
            rw [show (some 1 : Option Int) = some ((1 : Nat) : Int) from rfl, HT.sIx_nat]
            omega
          rw [e] at z
          exact absurd z.1 (by decide)
        · rw [tdVs_nums] at *
          have el7 : upd H6 t2 (.tup ((tdNums t).map V.int)) l = some (.lst ((([1] ++ ss.map fun s : Int × Int => ab s.2) ++ tNums ((toldOf rs).take i)).map V.int)) := by rw [upd_ne (ne_of_none el6 ht2)]; exact el6
          have s7 := same_new (o := .tup ((tdNums t).map V.int)) (Same.refl H6) ht2
          refine ⟨t2, rfl, ⟨_, SqT.of upd_same⟩, fun D2 hD2 => lc_it walk_tup (fun j H7 => Same (upd H6 t2 (.tup ((tdNums t).map V.int))) H7 ∧ H7 D2 = some (.lst ((((tdNums t).take j).map ab).map V.int))) ⟨same_new (Same.refl _) hD2, upd_same⟩ (fun j H7 _ h => SqT.of (h.1 _ _ upd_same)) ?_ ?_⟩
          · rintro j x H7 H8 hj ⟨s8, e8'⟩ ⟨rfl, e9⟩
            obtain ⟨z, ez, rfl⟩ := int_at e9
            have tn := tdNums_len t
            refine ⟨rfl, _, rfl, z, rfl, _, e8', smallB (by rw [List.length_map, List.length_map, List.length_take]; omega), same_at s8 hD2, ?_⟩
            rw [take_snoc ez, List.map_append, List.map_append]
            exact upd_same
          · rintro H7 ⟨s8, e8'⟩
            rw [List.length_map, List.take_length] at e8'
            have el8 := s8 _ _ el7
            have nq : q ≠ l := ql
            have tn := tNums_len ((toldOf rs).take i)
            rw [List.length_take] at tn
            have tn2 := tdNums_len t
            refine ⟨l, D2, _, _, rfl, rfl, el8, e8', (by rw [List.length_map, List.length_map, List.length_map, List.length_append, List.length_append, List.length_map, List.length_singleton, sizeLine_eq]; omega), ?_⟩
            have s9 : Same H6 H7 := s7.trans s8
            refine ⟨_, rfl, same_at (s6.trans s9) hl, kt.trans ((Kt.of s9).trans (Kt.lst el8)), by rw [upd_ne ql]; exact s9 _ _ e6, ?_⟩
            rw [take_snoc et, tNums_snoc, ← List.append_assoc, List.map_append (l₂ := List.map ab _)]
            exact upd_same
      · rintro σ H6 ⟨y, rfl, s6, kt, e6, el6⟩
        rw [lz, List.take_length] at el6
        refine ⟨_, rfl, l, _, rfl, SqL.of el6, (by rw [List.length_append, List.length_append]; show 0 < 1 + _ + _; omega), fun m hm hy => k m H6 ⟨hm, hy⟩ s6⟩
end
end My
set_option Elab.async false
set_option linter.all false
set_option maxRecDepth 100000
set_option maxHeartbeats 8000000
namespace My
open PySem PySem.Spec PyProof.Rows L2
local macro_rules | `(tactic| walk_at "lv") => `(tactic| first | exact Or.inl rfl | exact Or.inr rfl)
/-! ### the law's rim -/
def IsMaxOf (l : List Int) (r : Int) : Prop := r ∈ l ∧ ∀ x ∈ l, x ≤ r
theorem IsMaxOf.step {l ys : List Int} {r x : Int} (h : IsMaxOf l r) (hy : ∀ y ∈ ys, y ≤ x) : IsMaxOf (l ++ x :: ys) (if x > r then x else r) := by
  refine ⟨?_, fun y hy2 => ?_⟩
  · split
    · exact List.mem_append_right _ List.mem_cons_self
    · exact List.mem_append_left _ h.1
  · rcases List.mem_append.mp hy2 with hy2 | hy2
    · have := h.2 y hy2
      split <;> omega
    · rcases List.mem_cons.mp hy2 with rfl | hy2
      · split <;> omega
      · have := hy y hy2
        split <;> omega
def tdOk : Td → Prop
  | .inl L => L.Ok
  | .inr T => T.Ok
theorem td_split (t : Td) (ok : tdOk t) : t = .inl .turn ∨ ∃ z n ys, tdVs t = .str z :: .int n :: ys.map V.int ∧ tdNums t = n :: ys ∧ z ≠ "turn" ∧ ∀ y ∈ ys, ab y ≤ ab n := by
  rcases t with L | T
  · cases L with
    | set v => exact .inr ⟨"set", v, [], rfl, rfl, by decide, fun y hy => by cases hy⟩
    | add v => exact .inr ⟨"add", v, [], rfl, rfl, by decide, fun y hy => by cases hy⟩
    | turn => exact .inl rfl
    | mod m => exact .inr ⟨"mod", m, [], rfl, rfl, by decide, fun y hy => by cases hy⟩
  · cases T with
    | below v => exact .inr ⟨"below", v, [], rfl, rfl, by decide, fun y hy => by cases hy⟩
    | is v => exact .inr ⟨"is", v, [], rfl, rfl, by decide, fun y hy => by cases hy⟩
    | rest m r =>
      refine .inr ⟨"rest", m, [r], rfl, rfl, by decide, fun y hy => ?_⟩
      have ok : (1 ≤ m ∧ m ≤ 6) ∧ 0 ≤ r ∧ r < m := ok
      rw [List.mem_singleton.mp hy]
      unfold ab
      split <;> split <;> omega
theorem told_snoc (rs : List Ar) (r : Ar) : toldOf (rs ++ [r]) = toldOf rs ++ r.m.told := by
  unfold toldOf
  rw [List.flatMap_append]
  simp
/-- the row that a move tells -/
theorem mv_told {H : Hp} {a : Addr} {m : Mv} (h : MvR H a m) (ok : m.Ok) : (m = .stay ∧ H a = some (.tup [.str "stay"])) ∨ ∃ z l t, H a = some (.tup [.str z, .ref l]) ∧ z ≠ "stay" ∧ m.told = [t] ∧ tdOk t ∧ H l = some (.tup (tdVs t)) := by
  cases m with
  | stay => exact .inl ⟨rfl, h⟩
  | deed L => obtain ⟨l, h1, h2⟩ := h; exact .inr ⟨_, l, .inl L, h1, by decide, rfl, ok, h2⟩
  | so T => obtain ⟨l, h1, h2⟩ := h; exact .inr ⟨_, l, .inr T, h1, by decide, rfl, ok, h2⟩
  | not T => obtain ⟨l, h1, h2⟩ := h; exact .inr ⟨_, l, .inr T, h1, by decide, rfl, ok, h2⟩
theorem tNums_app (ts us : List Td) : tNums (ts ++ us) = tNums ts ++ tNums us := by
  unfold tNums
  rw [List.flatMap_append]
theorem at_two {x y : V} {r : List V} : atI (x :: y :: r) 1 = some y := atI_nat (j := 1) (xs := x :: y :: r) rfl
section
variable {P : Program} {w : World} {K : PySem.W.Frag} {mg : Str → Option Value} {base : Heap}
def spLri : Sp := fun vs H Q _ => ∃ (a b : Addr) (xs ys : List V) (ss : List (Int × Int)) (rs : List Ar), vs = [.ref a, .ref b] ∧ SqA H a xs ∧ ImAll H xs (ss.map stD) ∧ SqA H b ys ∧ ImAll H ys (rs.map Ar.d) ∧ (∀ r ∈ rs, r.m.Ok) ∧
  ∀ r, IsRim ss rs r → Q (.int r) H
abbrev s_lri : Stmt := top 52
abbrev N_lri : List Str := ["_law_starts", "_law_arrows", "_law_most", "_law_start", "_law_arrow", "_law_move_here"]
theorem sc_lri : FnScope N_lri ["_law_starts", "_law_arrows"] (defScope s_lri) := ⟨rfl, rfl, rfl, by decide +kernel, rfl, by decide +kernel, by decide +kernel⟩
theorem kp_lri (F : At K mg "_law_rim" s_lri) (N : Nb mg) (nMax : mg "max" = none) : Keeps CX0 P w K mg base "_law_rim" 1 ["_law_starts", "_law_arrows"] spLri := by
  refine keeps_of F sc_lri (fun _ _ _ _ _ _ us hl => match us, hl with | [_, _], _ => rfl) (fun vs H Q E h => ?_) (fun f cdv A outer s H vs Q E hr h => ?_)
  · obtain ⟨a, b, xs, ys, ss, rs, rfl, _⟩ := h
    rfl
  · obtain ⟨a, b, xs, ys, ss, rs, rfl, ha, ia, hb, ib, ok, k⟩ := h
    refine ⟨_, (pss_cons (ps_set (i := 2) sc_lri.nd rfl (by walk_at "lv") pe_int)
        (pss_cons (ps_for PassesOwn.never rfl (pi_seqV (pv 0)) (pg_name (i := 3) sc_lri.nd rfl (by walk_at "lv")) (pss_one (ps_set (i := 2) sc_lri.nd rfl (by walk_at "lv") (pe_callB (call_max2 rfl) (by rfl) nMax (by decide +kernel) (pa_cons (pv 2) (pa_cons (pe_callB call_abs (by rfl) N.abs (by decide +kernel) (pa_cons (pe_ix ix_tup (pv 3) pe_int (fun _ _ => rfl)) pa_nil)) pa_nil))))))
        (pss_cons (ps_for PassesOwn.never rfl (pi_seqV (pv 1)) (pg_name (i := 4) sc_lri.nd rfl (by walk_at "lv")) (pss_cons (ps_set (i := 5) sc_lri.nd rfl (by walk_at "lv") (pe_ix ix_tup (pv 4) pe_int (fun _ _ => rfl)))
        (pss_one (ps_if (PW.pt (pw_and (pt_cmpR op_ne (pe_ix ix_tup (pv 5) pe_int (fun _ _ => rfl)) pe_str (nomark _)) (pw_and1 (pt_cmpR op_ne (pe_ix ix_tup (pe_ix ix_tup (pv 5) pe_int (fun _ _ => rfl)) pe_int (fun _ _ => rfl)) pe_str (nomark _))))) (pss_one (ps_set (i := 2) sc_lri.nd rfl (by walk_at "lv") (pe_callB (call_max2 rfl) (by rfl) nMax (by decide +kernel) (pa_cons (pv 2) (pa_cons (pe_callB call_abs (by rfl) N.abs (by decide +kernel) (pa_cons (pe_ix ix_tup (pe_ix ix_tup (pv 5) pe_int (fun _ _ => rfl)) pe_int (fun _ _ => rfl)) pa_nil)) pa_nil))))) pss_nil))))
        (pss_one (ps_ret (pv 2)))))), ?_⟩
    have la := ia.len
    have lb := ib.len
    rw [List.length_map] at la lb
    refine ⟨a, xs, rfl, ha, fun J hw => for_it hw (fun i σ H2 => ∃ (r : Int) (y : Option V), σ = [some (.ref a), some (.ref b), some (.int r), y, none, none] ∧ H2 = H ∧ IsMaxOf ([1] ++ (ss.take i).map fun s => ab s.2) r) ⟨1, none, rfl, rfl, List.mem_singleton.mpr rfl, fun x hx => by rw [List.mem_singleton.mp hx]; exact Int.le_refl _⟩ (fun i σ H2 _ ⟨_, _, _, e, _⟩ => by rw [e]) ?_ ?_⟩
    · rintro i v σ _ H3 hi ⟨r, y, rfl, rfl, mx⟩ ⟨rfl, e4⟩
      obtain ⟨dd, e5, iv⟩ := ia.get e4
      rw [List.getElem?_map] at e5
      obtain ⟨st, er, rfl⟩ := Option.map_eq_some_iff.mp e5
      obtain ⟨c, rfl, ec⟩ := iv.st
      refine ⟨_, rfl, _, rfl, c, _, _, _, rfl, rfl, SqT.of ec, rfl, st.2, rfl, r, ab st.2, rfl, _, _, rfl, rfl, ?_⟩
      have q := mx.step (x := ab st.2) (ys := []) (fun y hy => by cases hy)
      rw [take_snoc er, List.map_append, ← List.append_assoc]
      exact q
    · rintro σ H2 ⟨r, y, rfl, rfl, mx⟩
      rw [la, List.take_length] at mx
      refine ⟨b, ys, rfl, hb, fun J2 hw2 => for_it hw2 (fun i σ H3 => ∃ (r : Int) (y z u : Option V), σ = [some (.ref a), some (.ref b), some (.int r), y, z, u] ∧ H3 = H2 ∧ IsMaxOf (rimNs ss (toldOf (rs.take i))) r) ⟨r, _, _, _, rfl, rfl, by rw [List.take_zero]; unfold rimNs; rw [show tNums (toldOf []) = [] from rfl, List.append_nil]; exact mx⟩ (fun i σ H3 _ ⟨_, _, _, _, _, e, _⟩ => by rw [e]) ?_ ?_⟩
      · rintro i v σ _ H3 hi ⟨r, y, z, u, rfl, rfl, mx⟩ ⟨rfl, e4⟩
        obtain ⟨dd, e5, iv⟩ := ib.get e4
        rw [List.getElem?_map] at e5
        obtain ⟨ar, er, rfl⟩ := Option.map_eq_some_iff.mp e5
        obtain ⟨c, m, rfl, ec, mr⟩ := iv.ar
        refine ⟨_, rfl, c, _, _, _, rfl, rfl, SqT.of ec, rfl, ?_⟩
        have tk : toldOf (rs.take (i + 1)) = toldOf (rs.take i) ++ ar.m.told := by rw [take_snoc er, told_snoc]
        rcases mv_told mr (ok _ (List.mem_of_getElem? er)) with ⟨e1, e2⟩ | ⟨z2, l, t, e1, nz, et, tok, el⟩
        · refine ⟨_, rfl, m, _, _, _, rfl, rfl, SqT.of e2, rfl, rfl, _, rfl, iteNe (fun _ => ⟨r, _, _, _, rfl, rfl, ?_⟩) (fun z => absurd rfl z)⟩
          rw [tk, e1]
          show IsMaxOf (rimNs ss (toldOf (rs.take i) ++ [])) r
          rw [List.append_nil]
          exact mx
        · refine ⟨_, rfl, m, _, _, _, rfl, rfl, SqT.of e1, rfl, rfl, _, rfl, iteNe (fun z => absurd z nz) (fun _ => ?_)⟩
          have rn : rimNs ss (toldOf (rs.take i) ++ [t]) = rimNs ss (toldOf (rs.take i)) ++ (tdNums t).map ab := by
            unfold rimNs
            rw [tNums_snoc, List.append_assoc, List.append_assoc, List.append_assoc]
          rcases td_split t tok with rfl | ⟨z3, n, ys2, e6, e7, nt, hy⟩
          · refine ⟨_, rfl, m, _, _, _, rfl, rfl, SqT.of e1, rfl, l, _, _, _, rfl, rfl, SqT.of el, rfl, rfl, _, rfl, iteNe (fun _ => ⟨r, _, _, _, rfl, rfl, ?_⟩) (fun z => absurd rfl z)⟩
            rw [tk, et, rn]
            show IsMaxOf (rimNs ss (toldOf (rs.take i)) ++ []) r
            rw [List.append_nil]
            exact mx
          · rw [e6] at el
            refine ⟨_, rfl, m, _, _, _, rfl, rfl, SqT.of e1, rfl, l, _, _, _, rfl, rfl, SqT.of el, at_head, rfl, _, rfl, iteNe (fun z => absurd z nt) (fun _ => ?_)⟩
            refine ⟨_, rfl, _, rfl, m, _, _, _, rfl, rfl, SqT.of e1, rfl, l, _, _, _, rfl, rfl, SqT.of el, at_two, n, rfl, r, ab n, rfl, _, _, _, _, rfl, rfl, ?_⟩
            rw [tk, et, rn, e7, List.map_cons]
            exact mx.step fun y hy2 => by
              obtain ⟨q, hq, rfl⟩ := List.mem_map.mp hy2
              exact hy q hq
      · rintro σ H3 ⟨r, y, z, u, rfl, rfl, mx⟩
        rw [lb, List.take_length] at mx
        exact ⟨_, rfl, k r mx⟩
end
end My
set_option Elab.async false
set_option linter.all false
set_option maxRecDepth 100000
set_option maxHeartbeats 8000000
namespace My
open PySem PySem.Spec PyProof.Rows L2
local macro_rules | `(tactic| walk_at "lv") => `(tactic| first | exact Or.inl rfl | exact Or.inr rfl)
/-! ### the block -/
def mStep (M : Nat) : Td → Nat
  | .inl (.mod m) => M.lcm m
  | .inr (.rest m _) => M.lcm m
  | _ => M
def lStep (L : Int) : Td → Int
  | .inl (.add v) => if ab v > L then ab v else L
  | _ => L
def modOf (ts : List Td) : Nat := ts.foldl mStep 1
def longOf (ts : List Td) : Int := ts.foldl lStep 1
theorem modOf_snoc (ts : List Td) (t : Td) : modOf (ts ++ [t]) = mStep (modOf ts) t := by unfold modOf; rw [List.foldl_append]; rfl
theorem longOf_snoc (ts : List Td) (t : Td) : longOf (ts ++ [t]) = lStep (longOf ts) t := by unfold longOf; rw [List.foldl_append]; rfl
def blockOf (ts : List Td) : Int := (modOf ts : Int) * ((longOf ts + (modOf ts : Int) - 1) / (modOf ts : Int))
theorem dvd60 {m : Nat} (h : 1 ≤ m ∧ m ≤ 6) : m ∣ 60 := by
  have : m = 1 ∨ m = 2 ∨ m = 3 ∨ m = 4 ∨ m = 5 ∨ m = 6 := by omega
  rcases this with rfl | rfl | rfl | rfl | rfl | rfl <;> decide
theorem mStep60 {M : Nat} {t : Td} (h : M ∣ 60) (ok : tdOk t) : mStep M t ∣ 60 := by
  rcases t with L | T
  · cases L with
    | mod m => exact Nat.lcm_dvd h (dvd60 ok)
    | _ => exact h
  · cases T with
    | rest m r => exact Nat.lcm_dvd h (dvd60 (show (1 ≤ m ∧ m ≤ 6) ∧ _ from ok).1)
    | _ => exact h
theorem le60 {M : Nat} (h : M ∣ 60) : 0 < M ∧ M ≤ 60 := ⟨Nat.pos_of_dvd_of_pos h (by decide), Nat.le_of_dvd (by decide) h⟩
theorem lStep20 {L : Int} {t : Td} (h : 1 ≤ L ∧ L ≤ 20) (ok : tdOk t) : 1 ≤ lStep L t ∧ lStep L t ≤ 20 := by
  rcases t with X | T
  · cases X with
    | add v =>
      have ok : -20 ≤ v ∧ v ≤ 20 := ok
      show 1 ≤ (if ab v > L then ab v else L) ∧ (if ab v > L then ab v else L) ≤ 20
      unfold ab
      split <;> split <;> omega
    | _ => exact h
  · exact h
theorem modOf60 : ∀ {ts : List Td}, (∀ t ∈ ts, tdOk t) → modOf ts ∣ 60 := by
  have : ∀ (ts : List Td) (M : Nat), M ∣ 60 → (∀ t ∈ ts, tdOk t) → ts.foldl mStep M ∣ 60 := by
    intro ts
    induction ts with
    | nil => intro M h _; exact h
    | cons t ts ih => intro M h ok; exact ih _ (mStep60 h (ok t List.mem_cons_self)) fun u hu => ok u (List.mem_cons_of_mem _ hu)
  exact fun {ts} ok => this ts 1 (by decide) ok
theorem longOf20 : ∀ {ts : List Td}, (∀ t ∈ ts, tdOk t) → 1 ≤ longOf ts ∧ longOf ts ≤ 20 := by
  have : ∀ (ts : List Td) (L : Int), 1 ≤ L ∧ L ≤ 20 → (∀ t ∈ ts, tdOk t) → 1 ≤ ts.foldl lStep L ∧ ts.foldl lStep L ≤ 20 := by
    intro ts
    induction ts with
    | nil => intro M h _; exact h
    | cons t ts ih => intro M h ok; exact ih _ (lStep20 h (ok t List.mem_cons_self)) fun u hu => ok u (List.mem_cons_of_mem _ hu)
  exact fun {ts} ok => this ts 1 (by omega) ok
theorem told_ok {rs : List Ar} (ok : ∀ r ∈ rs, r.m.Ok) : ∀ t ∈ toldOf rs, tdOk t := by
  intro t ht
  obtain ⟨r, hr, h⟩ := List.mem_flatMap.mp ht
  have := ok r hr
  cases e : r.m with
  | stay => rw [e] at h; cases h
  | deed L => rw [e] at h this; rw [List.mem_singleton.mp h]; exact this
  | so T => rw [e] at h this; rw [List.mem_singleton.mp h]; exact this
  | not T => rw [e] at h this; rw [List.mem_singleton.mp h]; exact this
/-- how many of M stand below L -/
theorem ceil_lt {L M j : Int} (hM : 0 < M) : M * j < L ↔ j < (L + M - 1) / M := by
  rw [show (j < (L + M - 1) / M) = (j + 1 ≤ (L + M - 1) / M) from rfl, Int.le_ediv_iff_mul_le hM, Int.add_mul, Int.mul_comm j M]
  omega
theorem ceil_b {L M : Int} (hM : 0 < M) (h1 : 1 ≤ L) (h2 : L ≤ 20) : 1 ≤ (L + M - 1) / M ∧ (L + M - 1) / M ≤ 20 := by
  refine ⟨?_, ?_⟩
  · have := (ceil_lt (L := L) (M := M) (j := 0) hM).mp (by omega)
    omega
  · rcases Int.lt_or_le 20 ((L + M - 1) / M) with h | h
    · have := (ceil_lt hM).mpr h
      have : M * 20 ≥ 1 * 20 := Int.mul_le_mul_of_nonneg_right (by omega) (by decide)
      omega
    · exact h
theorem blockOf_pos {ts : List Td} (ok : ∀ t ∈ ts, tdOk t) : 0 < blockOf ts ∧ blockOf ts ≤ 1200 := by
  have hm := le60 (modOf60 ok)
  have hl := longOf20 ok
  have hc := ceil_b (L := longOf ts) (M := (modOf ts : Int)) (by omega) hl.1 hl.2
  unfold blockOf
  refine ⟨Int.mul_pos (by omega) (by omega), ?_⟩
  have := Int.mul_le_mul_of_nonneg_right (a := (modOf ts : Int)) (b := 60) (c := (longOf ts + (modOf ts : Int) - 1) / (modOf ts : Int)) (by omega) (by omega)
  omega
def tdName : Td → Str
  | .inl (.set _) => "set"
  | .inl (.add _) => "add"
  | .inl .turn => "turn"
  | .inl (.mod _) => "mod"
  | .inr (.below _) => "below"
  | .inr (.is _) => "is"
  | .inr (.rest _ _) => "rest"
def tdMR : Td → Bool
  | .inl (.mod _) => true
  | .inr (.rest _ _) => true
  | _ => false
theorem td_name (t : Td) : ∃ r, tdVs t = .str (tdName t) :: r := by
  rcases t with L | T
  · cases L <;> exact ⟨_, rfl⟩
  · cases T <;> exact ⟨_, rfl⟩
theorem td_mr (t : Td) : (([.str "mod", .str "rest"] : List PyData).any fun z => PyData.eqv z (.str (tdName t))) = tdMR t := by
  rcases t with L | T
  · cases L <;> simp [PyData.eqv, tdName, tdMR] <;> decide
  · cases T <;> simp [PyData.eqv, tdName, tdMR] <;> decide
theorem shp_name (t : Td) : SeqAt.shaped (.str (tdName t)) = true := by
  rcases t with L | T
  · cases L with
    | set _ => exact (by decide +kernel : SeqAt.shaped (.str "set") = true)
    | add _ => exact (by decide +kernel : SeqAt.shaped (.str "add") = true)
    | turn => exact (by decide +kernel : SeqAt.shaped (.str "turn") = true)
    | mod _ => exact (by decide +kernel : SeqAt.shaped (.str "mod") = true)
  · cases T with
    | below _ => exact (by decide +kernel : SeqAt.shaped (.str "below") = true)
    | is _ => exact (by decide +kernel : SeqAt.shaped (.str "is") = true)
    | rest _ _ => exact (by decide +kernel : SeqAt.shaped (.str "rest") = true)
theorem td_mrn {t : Td} (h : tdMR t = true) : ∃ (m : Nat) (r : List V), tdVs t = .str (tdName t) :: .int m :: r ∧ ∀ M, mStep M t = M.lcm m := by
  rcases t with L | T
  · cases L <;> first | exact ⟨_, _, rfl, fun _ => rfl⟩ | exact Bool.noConfusion h
  · cases T <;> first | exact ⟨_, _, rfl, fun _ => rfl⟩ | exact Bool.noConfusion h
theorem td_mrN {t : Td} (h : tdMR t = false) : ∀ M, mStep M t = M := by
  rcases t with L | T
  · cases L <;> first | exact fun _ => rfl | exact Bool.noConfusion h
  · cases T <;> first | exact fun _ => rfl | exact Bool.noConfusion h
theorem td_mrL {t : Td} (h : tdMR t = true) : ∀ L, lStep L t = L := by
  rcases t with L | T
  · cases L <;> first | exact fun _ => rfl | exact Bool.noConfusion h
  · cases T <;> first | exact fun _ => rfl | exact Bool.noConfusion h
theorem td_add (t : Td) : (∃ v, t = .inl (.add v)) ∨ tdName t ≠ "add" := by
  rcases t with L | T
  · cases L <;> first | exact .inl ⟨_, rfl⟩ | exact .inr (by dsimp only [tdName]; decide)
  · cases T <;> exact .inr (by dsimp only [tdName]; decide)
theorem td_addN {t : Td} (h : tdName t ≠ "add") : ∀ L, lStep L t = L := by
  rcases t with L | T
  · cases L <;> first | exact fun _ => rfl | exact absurd rfl h
  · exact fun _ => rfl
end My
set_option Elab.async false
set_option linter.all false
set_option maxRecDepth 100000
set_option maxHeartbeats 8000000
namespace My
open PySem PySem.Spec PyProof.Rows L2
local macro_rules | `(tactic| walk_at "lv") => `(tactic| first | exact Or.inl rfl | exact Or.inr rfl)
section
variable {P : Program} {w : World} {K : PySem.W.Frag} {mg : Str → Option Value} {base : Heap}
def spBlo : Sp := fun vs H Q _ => ∃ (b : Addr) (ys : List V) (rs : List Ar), vs = [.ref b] ∧ H b = some (.tup ys) ∧ ImAll H ys (rs.map Ar.d) ∧ rs.length ≤ 4000 ∧ (∀ r ∈ rs, r.m.Ok) ∧ ∀ H', Same H H' → Q (.int (blockOf (toldOf rs))) H'
abbrev s_blo : Stmt := top 32
abbrev N_blo : List Str := ["arrows", "modulus", "longest", "told"]
theorem sc_blo : FnScope N_blo ["arrows"] (defScope s_blo) := ⟨rfl, rfl, rfl, by decide +kernel, rfl, by decide +kernel, by decide +kernel⟩
theorem kp_blo (F : At K mg "_block_of" s_blo) (N : Nb mg) (nMax : mg "max" = none) (gLcm : mg "lcm" = some (.builtin "math.lcm")) (Gl_ : Keeps CX0 P w K mg base "_letters_and_tests" 1 ["arrows"] spLat) : Keeps CX0 P w K mg base "_block_of" 2 ["arrows"] spBlo := by
  refine keeps_of F sc_blo (fun _ _ _ _ _ _ us hl => match us, hl with | [_], _ => rfl) (fun vs H Q E h => ?_) (fun f cdv A outer s H vs Q E hr h => ?_)
  · obtain ⟨b, ys, rs, rfl, _⟩ := h
    rfl
  · obtain ⟨b, ys, rs, rfl, hb, ib, l2, ok, k⟩ := h
    have hu65 : (A.deeper (envOfC "_block_of" (defScope s_blo) s.heap.objs.size f cdv)).units + 65 < cLine := by have := hr.un; omega
    refine ⟨_, (pss_cons (ps_set (i := 1) sc_blo.nd rfl (by walk_at "lv") pe_int)
        (pss_cons (ps_set (i := 2) sc_blo.nd rfl (by walk_at "lv") pe_int)
        (pss_cons (ps_for PassesOwn.never rfl (pi_list (pe_k Gl_ hr (by rfl) pass0 (pa_cons (pv 0) pa_nil))) (pg_name (i := 3) sc_blo.nd rfl (by walk_at "lv")) (pss_one (ps_if (pt_cmpR (op_inT hu65) (pe_ix ix_tup (pv 3) pe_int (fun _ _ => rfl)) (pe_tup (pa_cons pe_str (pa_cons pe_str pa_nil))) (by rfl)) (pss_one (ps_set (i := 1) sc_blo.nd rfl (by walk_at "lv") (pe_callBfun cr_lcm (by rfl) gLcm (pa_cons (pv 1) (pa_cons (pe_ix ix_tup (pv 3) pe_int (fun _ _ => rfl)) pa_nil))))) (pss_one (ps_if (pt_cmpR op_eq (pe_ix ix_tup (pv 3) pe_int (fun _ _ => rfl)) pe_str (nomark _)) (pss_one (ps_set (i := 2) sc_blo.nd rfl (by walk_at "lv") (pe_callB (call_max2 rfl) (by rfl) nMax (by decide +kernel) (pa_cons (pv 2) (pa_cons (pe_callB call_abs (by rfl) N.abs (by decide +kernel) (pa_cons (pe_ix ix_tup (pv 3) pe_int (fun _ _ => rfl)) pa_nil)) pa_nil))))) pss_nil)))))
        (pss_one (ps_ret (pe_op op_mul (pv 1) (pe_op op_fdivW (pe_op op_sub (pe_op op_add (pv 2) (pv 1)) pe_int) (pv 1)))))))), ?_⟩
    have tok := told_ok ok
    refine ⟨_, rfl, b, ys, rs, rfl, hb, ib, l2, fun q zs H1 hq s1 e1 iz => ?_⟩
    have lz := iz.len
    rw [List.length_map] at lz
    refine ⟨q, rfl, ⟨_, SqL.of e1⟩, for_it walk_list (fun i σ H2 => ∃ y : Option V, σ = [some (.ref b), some (.int (modOf ((toldOf rs).take i) : Nat)), some (.int (longOf ((toldOf rs).take i))), y] ∧ Same H1 H2) ⟨_, rfl, Same.refl _⟩ (fun i σ H2 _ ⟨_, _, s2⟩ => SqL.of (s2 _ _ e1)) ?_ ?_⟩
    · rintro i v σ H2 H3 hi ⟨y, rfl, s2⟩ ⟨rfl, e4⟩
      obtain ⟨dd, e5, iv⟩ := iz.get e4
      rw [List.getElem?_map] at e5
      obtain ⟨t, et, rfl⟩ := Option.map_eq_some_iff.mp e5
      obtain ⟨c, rfl, ec⟩ := td_at iv
      have ec3 := s2 _ _ ec
      have m60 := le60 (modOf60 (ts := (toldOf rs).take i) fun u hu => tok u (List.mem_of_mem_take hu))
      have tk := take_snoc et
      obtain ⟨rr, er⟩ := td_name t
      rw [er] at ec3
      refine ⟨_, rfl, c, _, _, _, rfl, rfl, SqT.of ec3, at_head, (by show 2 ≤ sizeLine; decide), fun T hT => ?_⟩
      have s3 := same_new (o := .tup [V.str "mod", V.str "rest"]) s2 hT
      have ec4 := same_new (o := .tup [V.str "mod", V.str "rest"]) (Same.refl H3) hT _ _ ec3
      refine ⟨.str (tdName t), [.str "mod", .str "rest"], .str _, .tup (SqT.of upd_same) (.cons (.str _) (.cons (.str _) .nil)), shp_name t, by decide +kernel, _, rfl, ?_⟩
      show if (([.str "mod", .str "rest"] : List PyData).any fun z => PyData.eqv z (.str (tdName t))) = true then _ else _
      rw [td_mr]
      cases e6 : tdMR t with
      | true =>
        obtain ⟨m, r, e7, e8⟩ := td_mrn e6
        rw [er] at e7
        have e9 : (rr : List V) = .int m :: r := (List.cons.inj e7).2
        rw [e9] at ec4
        have tm : m ≤ 6 := by
          have := tok t (List.mem_of_getElem? et)
          rcases t with L | T
          · cases L <;> first | exact Bool.noConfusion e6 | (cases e9; cases er; exact (show 1 ≤ _ ∧ _ ≤ 6 from this).2)
          · cases T <;> first | exact Bool.noConfusion e6 | (cases e9; cases er; exact (show (1 ≤ _ ∧ _ ≤ 6) ∧ _ from this).1.2)
        refine iteT ⟨_, rfl, _, rfl, c, _, _, _, rfl, rfl, SqT.of ec4, at_two, _, _, rfl, by omega, by omega, some (.ref c), ?_, s3⟩
        rw [tk, modOf_snoc, longOf_snoc, e8, td_mrL e6]
        rfl
      | false =>
        refine iteF ⟨_, rfl, c, _, _, _, rfl, rfl, SqT.of ec4, at_head, rfl, _, rfl, ?_⟩
        rcases td_add t with ⟨v, rfl⟩ | nadd
        · obtain rfl : rr = [.int v] := (List.cons.inj er).2.symm
          refine iteS ⟨_, rfl, _, rfl, c, _, _, _, rfl, rfl, SqT.of ec4, rfl, v, rfl, longOf ((toldOf rs).take i), ab v, rfl, some (.ref c), ?_, s3⟩
          rw [tk, modOf_snoc, longOf_snoc]
          rfl
        · refine iteN nadd ⟨some (.ref c), ?_, s3⟩
          rw [tk, modOf_snoc, longOf_snoc, td_mrN e6, td_addN nadd]
          rfl
    · rintro σ H2 ⟨y, rfl, s2⟩
      rw [lz, List.take_length]
      have m60 := le60 (modOf60 tok)
      have hl := longOf20 tok
      refine ⟨_, rfl, _, rfl, _, rfl, _, _, rfl, rfl, _, _, rfl, rfl, _, rfl, _, _, rfl, rfl, ⟨by omega, log_small (by omega)⟩, _, _, rfl, rfl, .inl ⟨by omega, by omega⟩, k H2 (s1.trans s2)⟩
/-! ### the law's -/
def spBdv : Sp := fun vs H Q _ => ∃ (M m : Nat), vs = [.int M, .int m] ∧ (0 < M ∧ M ≤ 60) ∧ (1 ≤ m ∧ m ≤ 6) ∧ Q (.int (M.lcm m : Nat)) H
abbrev s_bdv : Stmt := top 53
abbrev N_bdv : List Str := ["_law_one", "_law_other", "_law_k"]
theorem sc_bdv : FnScope N_bdv ["_law_one", "_law_other"] (defScope s_bdv) := ⟨rfl, rfl, rfl, by decide +kernel, rfl, by decide +kernel, by decide +kernel⟩
theorem lcm_of {M m k : Nat} (hM : 0 < M) (hm : 1 ≤ m) (hd : m ∣ M * k) (hk : 0 < k) (hn : ∀ j, 0 < j → j < k → ¬ m ∣ M * j) : M.lcm m = M * k := by
  obtain ⟨c, hc⟩ : M ∣ M.lcm m := Nat.dvd_lcm_left M m
  have h1 : M.lcm m ∣ M * k := Nat.lcm_dvd (Nat.dvd_mul_right M k) hd
  have h2 : m ∣ M * c := by rw [← hc]; exact Nat.dvd_lcm_right M m
  have h3 : 0 < M.lcm m := Nat.lcm_pos hM (by omega)
  have h4 : 0 < c := by
    rcases Nat.eq_zero_or_pos c with z | z
    · rw [hc, z, Nat.mul_zero] at h3
      exact absurd h3 (Nat.lt_irrefl 0)
    · exact z
  have h5 : k ≤ c := by
    rcases Nat.lt_or_ge c k with z | z
    · exact absurd h2 (hn c h4 z)
    · exact z
  have h6 : M * c ≤ M * k := by rw [← hc]; exact Nat.le_of_dvd (Nat.mul_pos hM hk) h1
  have h7 : c ≤ k := Nat.le_of_mul_le_mul_left h6 hM
  rw [hc, Nat.le_antisymm h7 h5]
theorem kp_bdv (F : At K mg "_law_both_divide" s_bdv) (N : Nb mg) : Keeps CX0 P w K mg base "_law_both_divide" 1 ["_law_one", "_law_other"] spBdv := by
  refine keeps_of F sc_bdv (fun _ _ _ _ _ _ us hl => match us, hl with | [_, _], _ => rfl) (fun vs H Q E h => ?_) (fun f cdv A outer s H vs Q E hr h => ?_)
  · obtain ⟨M, m, rfl, _⟩ := h
    rfl
  · obtain ⟨M, m, rfl, hM, hm, k⟩ := h
    refine ⟨_, (pss_cons (ps_for PassesOwn.never rfl (pi_range2 (by rfl) N.range (pa_cons pe_int (pa_cons pe_int pa_nil))) (pg_name (i := 2) sc_bdv.nd rfl (by walk_at "lv")) (pss_one (ps_if (pt_cmpR op_eq (pe_op op_mod (pe_callTy call_int1 (by rfl) N.int (by decide +kernel) (pa_cons (pe_op op_mul (pv 0) (pv 2)) pa_nil)) (pv 1)) pe_int (nomark _)) (pss_one (ps_ret (pe_op op_mul (pv 0) (pv 2)))) pss_nil)))
        (pss_one (ps_ret (pe_op op_mul (pv 0) (pv 1))))), ?_⟩
    refine ⟨1, 61, rfl, ⟨by decide, by decide, by decide, by decide⟩, for_it walk_range (fun i σ H2 => ∃ y : Option V, σ = [some (.int M), some (.int m), y] ∧ H2 = H ∧ ∀ j, 0 < j → j < 1 + i → ¬ m ∣ M * j) ⟨_, rfl, rfl, fun j h1 h2 => by omega⟩ (fun i σ H2 _ _ => trivial) ?_ ?_⟩
    · rintro i v σ _ H3 hi ⟨y, rfl, rfl, no⟩ ⟨rfl, rfl⟩
      have hi60 : i < 60 := hi
      refine ⟨_, rfl, _, rfl, _, _, rfl, rfl, .inl ⟨by omega, by omega⟩, .inl ⟨_, rfl, _, rfl, _, _, rfl, rfl, (by omega), rfl, _, rfl, ?_⟩⟩
      show if decide (V.int (((M : Int) * (1 + (i : Int))) % (m : Int)) = V.int 0) = true then _ else _
      rw [vint]
      have cast : ((M : Int) * (1 + (i : Int))) = ((M * (1 + i) : Nat) : Int) := by
        rw [Int.natCast_mul, Int.natCast_add]; rfl
      have dv : ((M : Int) * (1 + (i : Int))) % (m : Int) = 0 ↔ m ∣ M * (1 + i) := by
        rw [cast, ← Int.natCast_emod]
        constructor
        · intro z
          exact Nat.dvd_of_mod_eq_zero (by omega)
        · intro z
          rw [Nat.mod_eq_zero_of_dvd z]; rfl
      refine ite2 (fun z => ?_) (fun z => ?_)
      · have z := dv.mp (of_decide_eq_true z)
        have e := lcm_of hM.1 hm.1 z (by omega) fun j h1 h2 => no j h1 (by omega)
        refine ⟨_, rfl, _, rfl, _, _, rfl, rfl, .inl ⟨by omega, by omega⟩, ?_⟩
        rw [e] at k
        show Q (.int ((M : Int) * (1 + (i : Int)))) _
        rw [cast]
        exact k
      · refine ⟨_, rfl, rfl, fun j h1 h2 => ?_⟩
        rcases Nat.lt_or_ge j (1 + i) with h3 | h3
        · exact no j h1 h3
        · obtain rfl : j = 1 + i := by omega
          exact fun q => z (decide_eq_true (dv.mpr q))
    · rintro σ H2 ⟨y, rfl, rfl, no⟩
      exact absurd (Nat.dvd_mul_left m M) (no m (by omega) (by show m < 1 + 60; omega))
end
end My
set_option Elab.async false
set_option linter.all false
set_option maxRecDepth 100000
set_option maxHeartbeats 8000000
namespace My
open PySem PySem.Spec PyProof.Rows L2
local macro_rules | `(tactic| walk_at "lv") => `(tactic| first | exact Or.inl rfl | exact Or.inr rfl)
theorem atm_min {b c M : Int} {i : Nat} (hM : 0 < M) (hc : 1 ≤ c) (hb : b = M * (if ((i : Int) + 1) < c then (i : Int) + 1 else c)) {L : Int} (hl : ∀ j : Int, M * j < L ↔ j < c) :
    (b < L → b + M = M * (if (((i + 1 : Nat) : Int) + 1) < c then ((i + 1 : Nat) : Int) + 1 else c)) ∧ (¬ b < L → b = M * (if (((i + 1 : Nat) : Int) + 1) < c then ((i + 1 : Nat) : Int) + 1 else c)) := by
  by_cases h : ((i : Int) + 1) < c
  · rw [if_pos h] at hb
    refine ⟨fun _ => ?_, fun z => absurd ((hl _).mpr h) (by rw [hb] at z; exact z)⟩
    by_cases h2 : (((i + 1 : Nat) : Int) + 1) < c
    · rw [if_pos h2, hb, show (((i + 1 : Nat) : Int) + 1) = ((i : Int) + 1) + 1 by omega, Int.mul_add M ((i : Int) + 1) 1, Int.mul_one]
    · rw [if_neg h2, hb, show c = ((i : Int) + 1) + 1 by omega, Int.mul_add M ((i : Int) + 1) 1, Int.mul_one]
  · rw [if_neg h] at hb
    refine ⟨fun z => ?_, fun _ => ?_⟩
    · rw [hb] at z
      exact absurd ((hl c).mp z) (Int.lt_irrefl c)
    · rw [if_neg (by omega), hb]
section
variable {P : Program} {w : World} {K : PySem.W.Frag} {mg : Str → Option Value} {base : Heap}
def spLbl : Sp := fun vs H Q _ => ∃ (b : Addr) (ys : List V) (rs : List Ar), vs = [.ref b] ∧ SqA H b ys ∧ ImAll H ys (rs.map Ar.d) ∧ (∀ r ∈ rs, r.m.Ok) ∧ ∀ H', Same H H' → Q (.int (blockOf (toldOf rs))) H'
abbrev s_lbl : Stmt := top 54
abbrev N_lbl : List Str := ["_law_arrows", "_law_step", "_law_modulus", "_law_arrow", "_law_move_here", "_law_block_here", "_law_turn"]
theorem sc_lbl : FnScope N_lbl ["_law_arrows"] (defScope s_lbl) := ⟨rfl, rfl, rfl, by decide +kernel, rfl, by decide +kernel, by decide +kernel⟩
theorem deed_add {m : Mv} {t : Td} (h : m.told = [t]) (n : tdName t = "add") : ∃ v, m = .deed (.add v) ∧ t = .inl (.add v) := by
  cases m with
  | stay => cases h
  | deed L =>
    cases h
    cases L <;> first | exact ⟨_, rfl, rfl⟩ | exact absurd n (by dsimp only [tdName]; decide)
  | so T => cases h; cases T <;> exact absurd n (by dsimp only [tdName]; decide)
  | not T => cases h; cases T <;> exact absurd n (by dsimp only [tdName]; decide)
/-- the row that a move tells, with its word -/
theorem mv_word {H : Hp} {a : Addr} {m : Mv} (h : MvR H a m) (ok : m.Ok) : (m = .stay ∧ H a = some (.tup [.str "stay"])) ∨ ∃ z l t, H a = some (.tup [.str z, .ref l]) ∧ z ≠ "stay" ∧ m.told = [t] ∧ tdOk t ∧ H l = some (.tup (tdVs t)) ∧ (tdName t = "add" → z = "deed") := by
  cases m with
  | stay => exact .inl ⟨rfl, h⟩
  | deed L => obtain ⟨l, h1, h2⟩ := h; exact .inr ⟨_, l, .inl L, h1, by decide, rfl, ok, h2, fun _ => rfl⟩
  | so T =>
    obtain ⟨l, h1, h2⟩ := h
    refine .inr ⟨_, l, .inr T, h1, by decide, rfl, ok, h2, fun n => ?_⟩
    cases T <;> exact absurd n (by dsimp only [tdName]; decide)
  | not T =>
    obtain ⟨l, h1, h2⟩ := h
    refine .inr ⟨_, l, .inr T, h1, by decide, rfl, ok, h2, fun n => ?_⟩
    cases T <;> exact absurd n (by dsimp only [tdName]; decide)
theorem iteE {x y : Str} {p q : Prop} (h1 : x = y → p) (h2 : x ≠ y → q) : if decide (V.str x = V.str y) = true then p else q := by
  by_cases h : x = y
  · rw [if_pos (by rw [h]; exact decide_eq_true rfl)]; exact h1 h
  · rw [if_neg (by rw [decide_eq_false fun z => h (V.str.inj z)]; exact Bool.false_ne_true)]; exact h2 h
theorem kp_lbl (F : At K mg "_law_block" s_lbl) (N : Nb mg) (nMax : mg "max" = none) (Gb : Keeps CX0 P w K mg base "_law_both_divide" 1 ["_law_one", "_law_other"] spBdv) : Keeps CX0 P w K mg base "_law_block" 2 ["_law_arrows"] spLbl := by
  refine keeps_of F sc_lbl (fun _ _ _ _ _ _ us hl => match us, hl with | [_], _ => rfl) (fun vs H Q E h => ?_) (fun f cdv A outer s H vs Q E hr h => ?_)
  · obtain ⟨b, ys, rs, rfl, _⟩ := h
    rfl
  · obtain ⟨b, ys, rs, rfl, hb, ib, ok, k⟩ := h
    have hu65 : (A.deeper (envOfC "_law_block" (defScope s_lbl) s.heap.objs.size f cdv)).units + 65 < cLine := by have := hr.un; omega
    refine ⟨_, (pss_cons (ps_set (i := 1) sc_lbl.nd rfl (by walk_at "lv") pe_int)
        (pss_cons (ps_set (i := 2) sc_lbl.nd rfl (by walk_at "lv") pe_int)
        (pss_cons (ps_for PassesOwn.never rfl (pi_seqV (pv 0)) (pg_name (i := 3) sc_lbl.nd rfl (by walk_at "lv")) (pss_cons (ps_set (i := 4) sc_lbl.nd rfl (by walk_at "lv") (pe_ix ix_tup (pv 3) pe_int (fun _ _ => rfl)))
        (C8.pss_cut (ps_if (PW.pt (pw_and (pt_cmpR op_eq (pe_ix ix_tup (pv 4) pe_int (fun _ _ => rfl)) pe_str (nomark _)) (pw_and1 (pt_cmpR op_eq (pe_ix ix_tup (pe_ix ix_tup (pv 4) pe_int (fun _ _ => rfl)) pe_int (fun _ _ => rfl)) pe_str (nomark _))))) (pss_one (ps_set (i := 1) sc_lbl.nd rfl (by walk_at "lv") (pe_callB (call_max2 rfl) (by rfl) nMax (by decide +kernel) (pa_cons (pv 1) (pa_cons (pe_callB call_abs (by rfl) N.abs (by decide +kernel) (pa_cons (pe_ix ix_tup (pe_ix ix_tup (pv 4) pe_int (fun _ _ => rfl)) pe_int (fun _ _ => rfl)) pa_nil)) pa_nil))))) pss_nil)
        (pss_one (ps_if (PW.pt (pw_and (pt_cmpR op_ne (pe_ix ix_tup (pv 4) pe_int (fun _ _ => rfl)) pe_str (nomark _)) (pw_and1 (pt_cmpR (op_inD hu65) (pe_ix ix_tup (pe_ix ix_tup (pv 4) pe_int (fun _ _ => rfl)) pe_int (fun _ _ => rfl)) (pe_lst (pa_cons pe_str (pa_cons pe_str pa_nil))) (by rfl))))) (pss_one (ps_set (i := 2) sc_lbl.nd rfl (by walk_at "lv") (pe_k Gb hr (by rfl) pass0 (pa_cons (pv 2) (pa_cons (pe_ix ix_tup (pe_ix ix_tup (pv 4) pe_int (fun _ _ => rfl)) pe_int (fun _ _ => rfl)) pa_nil))))) pss_nil)))))
        (pss_cons (ps_set (i := 5) sc_lbl.nd rfl (by walk_at "lv") (pv 2))
        (pss_cons (ps_for PassesOwn.never rfl (pi_range1 (by rfl) N.range (pa_cons pe_int pa_nil)) (pg_name (i := 6) sc_lbl.nd rfl (by walk_at "lv")) (pss_one (ps_if (pt_cmpR op_lt (pv 5) (pv 1) (nomark _)) (pss_one (ps_set (i := 5) sc_lbl.nd rfl (by walk_at "lv") (pe_op op_add (pv 5) (pv 2)))) pss_nil)))
        (pss_one (ps_ret (pv 5)))))))), ?_⟩
    have tok := told_ok ok
    have lb := ib.len
    rw [List.length_map] at lb
    refine ⟨b, ys, rfl, hb, fun J hw => for_it hw (fun i σ H2 => ∃ y z : Option V, σ = [some (.ref b), some (.int (longOf (toldOf (rs.take i)))), some (.int (modOf (toldOf (rs.take i)) : Nat)), y, z, none, none] ∧ Same H H2) ⟨_, _, rfl, Same.refl _⟩ (fun i σ H2 _ ⟨_, _, _, s2⟩ => hb.keep s2) ?_ ?_⟩
    · rintro i v σ H2 H3 hi ⟨y, z, rfl, s2⟩ ⟨rfl, e4⟩
      obtain ⟨dd, e5, iv⟩ := ib.get e4
      rw [List.getElem?_map] at e5
      obtain ⟨ar, er, rfl⟩ := Option.map_eq_some_iff.mp e5
      obtain ⟨c, m, rfl, ec, mr⟩ := (Im.kt (Kt.of s2) _ _ iv).ar
      have m60 := le60 (modOf60 (ts := toldOf (rs.take i)) (told_ok fun r hr2 => ok r (List.mem_of_mem_take hr2)))
      have tk : toldOf (rs.take (i + 1)) = toldOf (rs.take i) ++ ar.m.told := by rw [take_snoc er, told_snoc]
      refine ⟨_, rfl, c, _, _, _, rfl, rfl, SqT.of ec, rfl, ?_⟩
      refine ⟨fun σ' H' => σ' = [some (.ref b), some (.int (longOf (toldOf (rs.take (i + 1))))), some (.int (modOf (toldOf (rs.take i)) : Nat)), some (.ref c), some (.ref m), none, none] ∧ H' = H3, ?_, ?_⟩
      · rcases mv_word mr (ok _ (List.mem_of_getElem? er)) with ⟨e1, e2⟩ | ⟨z2, l, t, e1, nz, et, tok1, el, dz⟩
        · refine ⟨_, rfl, m, _, _, _, rfl, rfl, SqT.of e2, rfl, rfl, _, rfl, iteN (by decide) ⟨?_, rfl⟩⟩
          rw [tk, e1, show Mv.stay.told = [] from rfl, List.append_nil]
          rfl
        · obtain ⟨rr, en⟩ := td_name t
          rw [en] at el
          refine ⟨_, rfl, m, _, _, _, rfl, rfl, SqT.of e1, rfl, rfl, _, rfl, iteE (fun hz => ?_) (fun hz => ⟨?_, rfl⟩)⟩
          · refine ⟨_, rfl, m, _, _, _, rfl, rfl, SqT.of e1, rfl, l, _, _, _, rfl, rfl, SqT.of el, at_head, rfl, _, rfl, iteE (fun hn => ?_) (fun hn => ⟨?_, rfl⟩)⟩
            · obtain ⟨v, ev, rfl⟩ := deed_add et hn
              obtain rfl : rr = [.int v] := (List.cons.inj en).2.symm
              refine ⟨_, rfl, _, rfl, m, _, _, _, rfl, rfl, SqT.of e1, rfl, l, _, _, _, rfl, rfl, SqT.of el, rfl, v, rfl, longOf (toldOf (rs.take i)), ab v, rfl, ?_, rfl⟩
              rw [tk, et, longOf_snoc]
              rfl
            · rw [tk, et, longOf_snoc, td_addN hn]
              rfl
          · rw [tk, et, longOf_snoc, td_addN (fun q => hz (dz q))]
            rfl
      · rintro _ H4 ⟨rfl, e34⟩
        subst e34
        rcases mv_word mr (ok _ (List.mem_of_getElem? er)) with ⟨e1, e2⟩ | ⟨z2, l, t, e1, nz, et, tok1, el, dz⟩
        · refine ⟨_, rfl, m, _, _, _, rfl, rfl, SqT.of e2, rfl, rfl, _, rfl, iteNe (fun _ => ⟨some (.ref c), some (.ref m), ?_, s2⟩) (fun z => absurd rfl z)⟩
          rw [tk, e1, show Mv.stay.told = [] from rfl, List.append_nil]
        · obtain ⟨rr, en⟩ := td_name t
          rw [en] at el
          refine ⟨_, rfl, m, _, _, _, rfl, rfl, SqT.of e1, rfl, rfl, _, rfl, iteNe (fun z => absurd z nz) (fun _ => ?_)⟩
          refine ⟨_, rfl, m, _, _, _, rfl, rfl, SqT.of e1, rfl, l, _, _, _, rfl, rfl, SqT.of el, at_head, (by show 2 ≤ sizeLine; decide), fun T hT => ?_⟩
          have s3 := same_new (o := .lst [V.str "mod", V.str "rest"]) s2 hT
          have s4 := same_new (o := .lst [V.str "mod", V.str "rest"]) (Same.refl _) hT
          refine ⟨.str (tdName t), [.str "mod", .str "rest"], .str _, .lst (SqL.of upd_same) (.cons (.str _) (.cons (.str _) .nil)), shp_name t, by decide +kernel, _, rfl, ?_⟩
          show if (([.str "mod", .str "rest"] : List PyData).any fun z => PyData.eqv z (.str (tdName t))) = true then _ else _
          rw [td_mr]
          cases e6 : tdMR t with
          | true =>
            obtain ⟨mm, r, e7, e8⟩ := td_mrn e6
            rw [en] at e7
            have e9 : (rr : List V) = .int mm :: r := (List.cons.inj e7).2
            rw [e9] at el
            have tm : 1 ≤ mm ∧ mm ≤ 6 := by
              rcases t with L | T
              · cases L <;> first | exact Bool.noConfusion e6 | (cases e9; cases en; exact (show 1 ≤ _ ∧ _ ≤ 6 from tok1))
              · cases T <;> first | exact Bool.noConfusion e6 | (cases e9; cases en; exact (show (1 ≤ _ ∧ _ ≤ 6) ∧ _ from tok1).1)
            refine iteT ⟨_, rfl, _, rfl, m, _, _, _, rfl, rfl, SqT.of (s4 _ _ e1), rfl, l, _, _, _, rfl, rfl, SqT.of (s4 _ _ el), at_two, _, mm, rfl, m60, tm, some (.ref c), some (.ref m), ?_, s3⟩
            rw [tk, et, modOf_snoc, e8]
            rfl
          | false =>
            refine iteF ⟨some (.ref c), some (.ref m), ?_, s3⟩
            rw [tk, et, modOf_snoc, td_mrN e6]
    · rintro σ H2 ⟨y, z, rfl, s2⟩
      rw [lb, List.take_length]
      have m60 := le60 (modOf60 tok)
      have hl := longOf20 tok
      have hM : (0 : Int) < (modOf (toldOf rs) : Int) := by omega
      have cb := ceil_b hM hl.1 hl.2
      refine ⟨_, rfl, 20, rfl, by decide, by decide, for_it walk_range (fun i σ H3 => ∃ (B : Int) (y z u : Option V), σ = [some (.ref b), some (.int (longOf (toldOf rs))), some (.int (modOf (toldOf rs) : Nat)), y, z, some (.int B), u] ∧ H3 = H2 ∧ B = (modOf (toldOf rs) : Int) * (if ((i : Int) + 1) < (longOf (toldOf rs) + (modOf (toldOf rs) : Int) - 1) / (modOf (toldOf rs) : Int) then (i : Int) + 1 else (longOf (toldOf rs) + (modOf (toldOf rs) : Int) - 1) / (modOf (toldOf rs) : Int))) ⟨_, _, _, _, rfl, rfl, ?_⟩ (fun i σ H3 _ _ => trivial) ?_ ?_⟩
      · split
        · simp
        · rw [show (longOf (toldOf rs) + (modOf (toldOf rs) : Int) - 1) / (modOf (toldOf rs) : Int) = 1 by omega, Int.mul_one]
      · rintro i v σ _ H3 hi ⟨B, y, z, u, rfl, rfl, hB⟩ ⟨rfl, rfl⟩
        have st := atm_min (i := i) hM cb.1 hB (fun j => ceil_lt hM)
        refine ⟨_, rfl, _, rfl, _, _, rfl, rfl, _, rfl, ite2 (fun h1 => ?_) (fun h1 => ?_)⟩
        · exact ⟨_, rfl, _, rfl, _, _, rfl, rfl, _, _, _, _, rfl, rfl, st.1 (of_decide_eq_true h1)⟩
        · exact ⟨_, _, _, _, rfl, rfl, st.2 (fun z => h1 (decide_eq_true z))⟩
      · rintro σ H3 ⟨B, y, z, u, rfl, rfl, hB⟩
        have hB2 : B = blockOf (toldOf rs) := by
          rw [hB, if_neg (by show ¬ (((20 : Nat) : Int) + 1) < _; omega)]
          rfl
        exact ⟨_, rfl, by rw [hB2]; exact k _ s2⟩
end
end My
set_option Elab.async false
set_option linter.all false
set_option maxRecDepth 100000
set_option maxHeartbeats 8000000
namespace My
open PySem PySem.Spec PyProof.Rows L2
local macro_rules | `(tactic| walk_at "lv") => `(tactic| first | exact Or.inl rfl | exact Or.inr rfl)
section
variable {P : Program} {w : World} {K : PySem.W.Frag} {mg : Str → Option Value} {base : Heap}
/-! ### _leaving -/
def spLea : Sp := fun vs H Q _ => ∃ (b : Addr) (n : Nat) (ys : List V) (rs : List Ar), vs = [.int n, .ref b] ∧ H b = some (.tup ys) ∧ ImAll H ys (rs.map Ar.d) ∧ rs.length ≤ 4000 ∧ n ≤ 200 ∧ (∀ r ∈ rs, 0 ≤ r.o ∧ r.o < n) ∧ ∀ l H', Same H H' → Q (.ref l) H'
abbrev s_lea : Stmt := top 33
abbrev N_lea : List Str := ["stations", "arrows", "leaving", "seen", "index", "arrow", "_", "indexes"]
theorem sc_lea : FnScope N_lea ["stations", "arrows"] (defScope s_lea) := ⟨rfl, rfl, rfl, by decide +kernel, rfl, by decide +kernel, by decide +kernel⟩
/-- the lists of the stations, none of which stands at l or was there in H -/
def Rows (H H' : Hp) (l : Addr) (m : Nat) (qs : List Addr) : Prop := H' l = some (.lst (qs.map V.ref)) ∧ ∀ q ∈ qs, q ≠ l ∧ H q = none ∧ ∃ zs : List V, H' q = some (.lst zs) ∧ zs.length ≤ m
theorem kp_lea (F : At K mg "_leaving" s_lea) (N : Nb mg) : Keeps CX0 P w K mg base "_leaving" 1 ["stations", "arrows"] spLea := by
  refine keeps_of F sc_lea (fun _ _ _ _ _ _ us hl => match us, hl with | [_, _], _ => rfl) (fun vs H Q E h => ?_) (fun f cdv A outer s H vs Q E hr h => ?_)
  · obtain ⟨b, n, ys, rs, rfl, _⟩ := h
    rfl
  · obtain ⟨b, n, ys, rs, rfl, hb, ib, hl, hn, ho, k⟩ := h
    have hu9 : (A.deeper (envOfC "_leaving" (defScope s_lea) s.heap.objs.size f cdv)).units + 9 < cLine := by have := hr.un; omega
    refine ⟨_, (pss_cons (ps_setLc (i := 2) (own := [("_", 6)]) (g := gName 6) (tt := tYes) rfl sc_lea.nd rfl rfl (sw_true rfl rfl rfl (by decide +kernel)) (pi_range1 (by rfl) N.range (pa_cons (pv 0) pa_nil)) (blkOk_by (N := N_lea) (sc := defScope s_lea) (by decide +kernel)) (fun _ _ _ _ _ => (pg_name (i := 6) sc_lea.nd rfl (by walk_at "lv"))) (fun _ _ _ _ _ => pts_nil) (fun _ _ _ _ _ => (pe_lst pa_nil)))
        (pss_cons (ps_set (i := 3) sc_lea.nd rfl (by walk_at "lv") pe_dnewK)
        (pss_cons (ps_for PassesOwn.never rfl (pi_enumA (by rfl) N.enumerate (pa_cons (pv 1) pa_nil)) (pg_tup (by rfl) (pgs_cons (pg_name (i := 4) sc_lea.nd rfl (by walk_at "lv")) (pgs_cons (pg_name (i := 5) sc_lea.nd rfl (by walk_at "lv")) pgs_nil))) (pss_one (ps_if (pt_cmpR (op_ninN hu9) (pv 5) (pv 3) (by rfl)) (pss_cons (ps_asg pe_bl (pg_sub (pv 3) (pv 5) (set_N hu9)))
        (pss_one (ps_expr (pe_bm PySem.F.plainAttrs_list PySem.F.slot_list_append PySem.F.type_list_append mt_append (pe_ix ix_list (pv 2) (pe_ix ix_tup (pv 5) pe_int (fun _ _ => rfl)) (fun _ _ => rfl)) (pa_cons (pv 4) pa_nil))))) pss_nil)))
        (pss_one (ps_ret (pe_callTy call_tuple_of (by rfl) N.tuple (by decide +kernel) (pa_cons (pe_lc (own := [("indexes", 7)]) (g := gName 7) (tt := tYes) rfl sc_lea.nd (pi_seqV (pv 2)) (blkOk_by (N := N_lea) (sc := defScope s_lea) (by decide +kernel)) (fun _ _ _ _ _ => (pg_name (i := 7) sc_lea.nd rfl (by walk_at "lv"))) (fun _ _ _ _ _ => pts_nil) (fun _ _ _ _ _ => (pe_callTy (T := "tuple") (r := rTupOf K) call_tuple_of (by rfl) N.tuple (by decide +kernel) (pa_cons (pv 7) pa_nil)))) pa_nil))))))), ?_⟩
    have lb := ib.len
    rw [List.length_map] at lb
    refine ⟨_, rfl, _, rfl, by omega, by omega, fun D hD => ?_⟩
    refine lc_it walk_range (fun i H3 => Same H H3 ∧ ∃ qs, qs.length = i ∧ Rows H H3 D 0 qs) ⟨same_new (Same.refl H) hD, [], rfl, upd_same, fun q hq => by cases hq⟩ (fun i H3 _ h => trivial) ?_ ?_
    · rintro i v H3 H4 hi ⟨s3, qs, lq, e3, hq⟩ ⟨rfl, rfl⟩
      have hi : i < n := by omega
      refine ⟨rfl, (by show 0 ≤ sizeLine; decide), fun q nq => ?_⟩
      have nD : D ≠ q := ne_of_none e3 nq
      refine ⟨qs.map V.ref, by rw [upd_ne nD]; exact e3, smallB (by rw [List.length_map]; omega), ?_⟩
      have s4 := same_new (o := .lst ([] : List V)) s3 nq
      refine ⟨same_at s4 hD, qs ++ [q], by rw [List.length_append, lq]; rfl, by rw [List.map_append]; exact upd_same, fun c hc => ?_⟩
      rcases List.mem_append.1 hc with hc | hc
      · obtain ⟨c1, c2, zs, c3, c4⟩ := hq c hc
        exact ⟨c1, c2, zs, by rw [upd_ne c1, upd_ne (ne_of_none c3 nq)]; exact c3, c4⟩
      · rw [List.mem_singleton.mp hc]
        exact ⟨nD.symm, s3.free nq, [], by rw [upd_ne nD.symm]; exact upd_same, Nat.le_refl 0⟩
    · rintro H3 ⟨s3, qs, lq, e3, hq⟩
      rw [show ((n : Int)).toNat = n by omega] at lq
      refine fun d nd => ?_
      have dD : D ≠ d := ne_of_none e3 nd
      refine ⟨_, rfl, b, ys, rfl, .inr (same_new s3 nd _ _ hb), fun J hw => for_it hw (fun i σ H5 => ∃ (y z : Option V) (kvs : List (NestedKey × V)), σ = [some (.int n), some (.ref b), some (.ref D), some (.ref d), y, z, none, none] ∧ Same H H5 ∧ Rows H H5 D i qs ∧ (∀ q ∈ qs, q ≠ d) ∧ DN P w H5 d kvs ∧ kvs.length ≤ i ∧ D ≠ d ∧ H d = none) ⟨_, _, [], rfl, same_new s3 nd, ⟨by rw [upd_ne dD]; exact e3, fun q h => ?_⟩, fun q h => ?_, .inl ⟨rfl, upd_same⟩, Nat.le_refl 0, dD, s3.free nd⟩ (fun i σ H5 _ ⟨_, _, _, _, s5, _⟩ => by rw [s5 _ _ hb, same_new s3 nd _ _ hb]) ?_ ?_⟩
      · obtain ⟨c1, c2, zs, c3, c4⟩ := hq q h
        exact ⟨c1, c2, zs, by rw [upd_ne (ne_of_none c3 nd)]; exact c3, c4⟩
      · obtain ⟨c1, c2, zs, c3, c4⟩ := hq q h
        exact ne_of_none c3 nd
      · rintro i v σ H5 H6 hi ⟨y, z, kvs, rfl, s5, ⟨r1, r2⟩, r3, dn, kl, dD, hdn⟩ ⟨T, y1, x1, rfl, hT, rfl, e1, e2⟩
        cases e1
        obtain ⟨dd, e5, iv⟩ := ib.get e2
        rw [List.getElem?_map] at e5
        obtain ⟨ar, er, rfl⟩ := Option.map_eq_some_iff.mp e5
        obtain ⟨c, m, rfl, ec, mr⟩ := iv.ar
        have hmem := List.mem_of_getElem? er
        have s6 := same_new (o := .tup [V.int (i : Nat), V.ref c]) s5 hT
        have s56 := same_new (o := .tup [V.int (i : Nat), V.ref c]) (Same.refl H5) hT
        have dn6 := dn.same s56
        have nk := Im.nk _ _ (Im.kt (Kt.of s6) _ _ iv)
        refine ⟨T, _, rfl, SqT.of upd_same, rfl, _, _, rfl, _, _, rfl, rfl, ?_⟩
        refine ⟨_, rfl, _, rfl, d, c, kvs, nkOf ar.d, rfl, rfl, dn6, nk, dep_ar ar, _, rfl, ite2 (fun _ => ?_) (fun _ => ?_)⟩
        · refine ⟨_, rfl, _, rfl, d, c, kvs, nkOf ar.d, rfl, rfl, dn6, nk, dep_ar ar, (by rw [sizeLine_eq]; omega), fun H7 k7 dn7 => ?_⟩
          have s7 : Same H H7 := fun u o e => by rw [k7 u (ne_of_none e hdn)]; exact s6 u o e
          have r17 : H7 D = some (.lst (qs.map V.ref)) := by rw [k7 D dD]; exact s56 _ _ r1
          obtain ⟨o1, o2⟩ := ho ar hmem
          obtain ⟨q, eq⟩ : ∃ q, qs[ar.o.toNat]? = some q := ⟨_, List.getElem?_eq_getElem (by omega)⟩
          obtain ⟨c1, c2, zs, c3, c4⟩ := r2 q (List.mem_of_getElem? eq)
          have qd := r3 q (List.mem_of_getElem? eq)
          have c37 : H7 q = some (.lst zs) := by rw [k7 q qd]; exact s56 _ _ c3
          have ai : atI (qs.map V.ref) ar.o = some (.ref q) := by
            have := atI_nat (xs := qs.map V.ref) (j := ar.o.toNat) (v := V.ref q) (by rw [List.getElem?_map, eq]; rfl)
            rw [show ((ar.o.toNat : Nat) : Int) = ar.o by omega] at this
            exact this
          refine ⟨_, rfl, _, rfl, c, _, _, _, rfl, rfl, SqT.of (s7 _ _ ec), rfl, D, _, _, _, rfl, rfl, SqL.of r17, ai, .inl ⟨rfl, _, SqL.of c37⟩, _, rfl, q, _, _, rfl, rfl, c37, smallB (by omega), ?_⟩
          refine ⟨_, _, nkPut kvs (nkOf ar.d) (.bl true), rfl, same_at s7 c2, ⟨by rw [upd_ne c1.symm]; exact r17, fun p hp => ?_⟩, r3, dn7.mono (fun p xs e => ?_) (fun o e => by rw [upd_ne qd.symm]; exact e), ?_, dD, hdn⟩
          · obtain ⟨p1, p2, ws, p3, p4⟩ := r2 p hp
            by_cases hpq : p = q
            · subst hpq
              exact ⟨p1, p2, _, upd_same, by rw [List.length_append]; show zs.length + 1 ≤ _; omega⟩
            · exact ⟨p1, p2, ws, by rw [upd_ne hpq, k7 p (r3 p hp)]; exact s56 _ _ p3, by omega⟩
          · rw [upd_ne (ne_of e c37 (fun z => nomatch z))]; exact e
          · unfold nkPut
            split
            · rw [List.length_map]; omega
            · rw [List.length_append]; show kvs.length + 1 ≤ _; omega
        · refine ⟨_, _, kvs, rfl, s6, ⟨s56 _ _ r1, fun p hp => ?_⟩, r3, dn6, by omega, dD, hdn⟩
          obtain ⟨p1, p2, ws, p3, p4⟩ := r2 p hp
          exact ⟨p1, p2, ws, s56 _ _ p3, by omega⟩
      · rintro σ H5 ⟨y, z, kvs, rfl, s5, ⟨r1, r2⟩, r3, dn, kl, dD, hdn⟩
        refine ⟨D, _, rfl, .inl r1, fun J2 hw2 D2 hD2 => lc_it hw2 (fun i H6 => Same H5 H6 ∧ ∃ acc, H6 D2 = some (.lst acc) ∧ acc.length = i) ⟨same_new (Same.refl H5) hD2, [], upd_same, rfl⟩ (fun i H6 _ h => by rw [h.1 _ _ r1, r1]) ?_ ?_⟩
        · rintro i v H6 H7 hi ⟨s6, acc, e6, la⟩ ⟨rfl, e7⟩
          rw [List.getElem?_map] at e7
          obtain ⟨q, eq, rfl⟩ := Option.map_eq_some_iff.mp e7
          obtain ⟨c1, c2, zs, c3, c4⟩ := r2 q (List.mem_of_getElem? eq)
          rw [List.length_map] at hi
          refine ⟨rfl, _, rfl, q, zs, rfl, .inl ⟨SqL.of (s6 _ _ c3), fun t ht => ⟨acc, by rw [upd_ne (ne_of_none e6 ht)]; exact e6, smallB (by omega), same_at (same_new s6 ht) hD2, _, upd_same, by rw [List.length_append, la]; rfl⟩⟩⟩
        · rintro H6 ⟨s6, acc, e6, la⟩
          exact ⟨D2, acc, rfl, .inl ⟨SqL.of e6, fun t ht => k t _ (same_new (s5.trans s6) ht)⟩⟩
end
end My
set_option Elab.async false
set_option linter.all false
set_option maxRecDepth 100000
set_option maxHeartbeats 8000000
namespace My
open PySem PySem.Spec PyProof.Rows L2
local macro_rules | `(tactic| walk_at "lv") => `(tactic| first | exact Or.inl rfl | exact Or.inr rfl)
/-! ### the class Machine -/
def machF (n : Int) (a b : Addr) (r k : Int) (l : Addr) : List (Str × V) := putF "leaving" (.ref l) (putF "block" (.int k) (putF "rim" (.int r) (putF "arrows" (.ref b) (putF "starts" (.ref a) (putF "stations" (.int n) [])))))
section
variable {n r k : Int} {a b l : Addr}
theorem mf_stations : (machF n a b r k l).lookup ("stations" : Str) = some (.int n) := by
  unfold machF
  rw [lookup_putF, if_neg (by decide +kernel), lookup_putF, if_neg (by decide +kernel), lookup_putF, if_neg (by decide +kernel), lookup_putF, if_neg (by decide +kernel), lookup_putF, if_neg (by decide +kernel), lookup_putF, if_pos rfl]
theorem mf_starts : (machF n a b r k l).lookup ("starts" : Str) = some (.ref a) := by
  unfold machF
  rw [lookup_putF, if_neg (by decide +kernel), lookup_putF, if_neg (by decide +kernel), lookup_putF, if_neg (by decide +kernel), lookup_putF, if_neg (by decide +kernel), lookup_putF, if_pos rfl]
theorem mf_arrows : (machF n a b r k l).lookup ("arrows" : Str) = some (.ref b) := by
  unfold machF
  rw [lookup_putF, if_neg (by decide +kernel), lookup_putF, if_neg (by decide +kernel), lookup_putF, if_neg (by decide +kernel), lookup_putF, if_pos rfl]
theorem mf_rim : (machF n a b r k l).lookup ("rim" : Str) = some (.int r) := by
  unfold machF
  rw [lookup_putF, if_neg (by decide +kernel), lookup_putF, if_neg (by decide +kernel), lookup_putF, if_pos rfl]
theorem mf_block : (machF n a b r k l).lookup ("block" : Str) = some (.int k) := by
  unfold machF
  rw [lookup_putF, if_neg (by decide +kernel), lookup_putF, if_pos rfl]
theorem mf_leaving : (machF n a b r k l).lookup ("leaving" : Str) = some (.ref l) := by
  unfold machF
  rw [lookup_putF, if_pos rfl]
end
section
variable {H H' : Hp}
mutual
theorem Im.tt (k : ∀ a xs, H a = some (.tup xs) → H' a = some (.tup xs)) : ∀ (d : PyData) (x : V), Im H x d → Im H' x d
  | .none, _, h => by cases h; exact .non
  | .bool _, _, h => by cases h; exact .bl _
  | .int _, _, h => by cases h; exact .int _
  | .str _, _, h => by cases h; exact .str _
  | .list _, _, h => by cases h
  | .tuple ds, _, h => by cases h with | tup e r => exact .tup (k _ _ e) (ImAll.tt k ds _ r)
theorem ImAll.tt (k : ∀ a xs, H a = some (.tup xs) → H' a = some (.tup xs)) : ∀ (ds : List PyData) (xs : List V), ImAll H xs ds → ImAll H' xs ds
  | [], _, h => by cases h; exact .nil
  | d :: ds, _, h => by cases h with | cons h r => exact .cons (Im.tt k d _ h) (ImAll.tt k ds _ r)
end
end
/-- a Machine stands at p -/
def MachAt (C : Addr) (H : Hp) (p : Addr) (n : Int) (ss : List (Int × Int)) (rs : List Ar) (r : Int) : Prop :=
  ∃ dx a b l, H p = some (.ins C dx (machF n a b r (blockOf (toldOf rs)) l)) ∧ IsRim ss rs r ∧ Im H (.ref a) (startsD ss) ∧ Im H (.ref b) (arrowsD rs) ∧ ∀ q ∈ rs, q.m.Ok
theorem MachAt.kt {C : Addr} {H H' : Hp} {p : Addr} {n r : Int} {ss : List (Int × Int)} {rs : List Ar} (k : Kt H H') (h : MachAt C H p n ss rs r) : MachAt C H' p n ss rs r := by
  obtain ⟨dx, a, b, l, h1, h2, h3, h4, h5⟩ := h
  exact ⟨dx, a, b, l, k.2 _ _ _ _ h1, h2, Im.kt k _ _ h3, Im.kt k _ _ h4, h5⟩
structure MachTxt (K : PySem.W.Frag) (mg : Str → Option Value) (C : Addr) : Prop where
  cl : Cls K C
  n1 : NoAttr K C "stations"
  n2 : NoAttr K C "starts"
  n3 : NoAttr K C "arrows"
  n4 : NoAttr K C "rim"
  n5 : NoAttr K C "block"
  n6 : NoAttr K C "leaving"
  mgC : mg "Machine" = some (.ref C)
  (ha : PySem.W.findIn K (.ref C) "__class__" = some (some (.builtin "object.__class__"))) (hn : PySem.W.specialIn K (.builtin "object.__class__") "__get__" = some (some (.builtin "getset_descriptor.__get__")))
  (ht : PySem.W.takesIn K (.builtin "object.__class__") = some true) (hm : PySem.W.mroIn K C (.type "object") = some true)
  isM : PySem.W.kitOne K (.ref C) (.ref C) = some true
/-- a def of the class at C, as it stands -/
def AtM (K : PySem.W.Frag) (C : Addr) (g : Addr) (nm q : Str) (st : Stmt) : Prop := ∃ fd, FunD K nm q (defArgs st) (defBody st) (defScope st) [] [] g fd
def KeepsM (CY : CXT) (P : Program) (w : World) (K : PySem.W.Frag) (mg : Str → Option Value) (base : Heap) (g : Addr) (k : Nat) (ps : List Str) (sp : Sp) : Prop :=
  ∃ fd, FnOk P w K mg base CY k g fd ps sp ∧ Binds K fd ps []
section
variable {CY : CXT} {P : Program} {w : World} {K : PySem.W.Frag} {mg : Str → Option Value} {base : Heap}
abbrev bindsM (st : Stmt) (nm q : Str) (ps : List Str) : Prop := ∀ (kV doc pm : Value) (an : Option Addr) (cdv ct : Value) (us : List Value), us.length = ps.length → bindArgs (PySem.W.fnOf nm q (defArgs st) (defBody st) (defScope st) .none kV doc pm an cdv ct) ⟨us, []⟩ = pure (ps.zip us)
theorem keepsM_ofX {C g : Addr} {nm q : Str} {st : Stmt} {N ps : List Str} {k : Nat} {sp : Sp} (F : AtM K C g nm q st) (S : FnScope N ps (defScope st)) (hb : bindsM st nm q ps) (len : ∀ vs H Q E, sp vs H Q E → vs.length = ps.length)
    (hbody : ∀ (cdv : Value) (A : Around) (outer : List Env) (s : Shared) (H : Hp) (vs : List V) (Q : VK) (E : XK), Room k (A.deeper (envOfC q (defScope st) s.heap.objs.size g cdv)) → sp vs H Q E →
      ∃ t, PSs (cxOf CY P w K mg base N q (defScope st) g cdv A outer s H E) (defBody st) t ∧ t { nx := fun _ H' => Q .non H', rt := Q } (start N vs) H) : KeepsM CY P w K mg base g (k + 1) ps sp := by
  obtain ⟨fd, F⟩ := F
  exact ⟨fd, F.ok S len (fun cdv A outer s H vs Q E hr h => hbody cdv A outer s H vs Q E hr h), F.bindsN hb⟩
theorem keepsM_of {C g : Addr} {nm q : Str} {st : Stmt} {N ps : List Str} {k : Nat} {sp : Sp} (F : AtM K C g nm q st) (S : FnScope N ps (defScope st)) (hb : bindsM st nm q ps) (len : ∀ vs H Q E, sp vs H Q E → vs.length = ps.length)
    (hbody : ∀ (cdv : Value) (A : Around) (outer : List Env) (s : Shared) (H : Hp) (vs : List V) (Q : VK) (E : XK), Room k (A.deeper (envOfC q (defScope st) s.heap.objs.size g cdv)) → sp vs H Q E →
      ∃ t, PSs (cxOf CX0 P w K mg base N q (defScope st) g cdv A outer s H E).nox (defBody st) t ∧ t { nx := fun _ H' => Q .non H', rt := Q } (start N vs) H) : KeepsM CX0 P w K mg base g (k + 1) ps sp :=
  keepsM_ofX F S hb len fun cdv A outer s H vs Q E hr h => by
    obtain ⟨t, h1, h2⟩ := hbody cdv A outer s H vs Q E hr h
    exact ⟨t, h1.nox, h2⟩
/-! ### Machine.__init__ -/
def RowBad (f : PyData → Bool) (most : Nat) (d : PyData) (i : Int) : Prop := (rowsOf d = none ∧ i = -1) ∨ (∃ ds, rowsOf d = some ds ∧ most < ds.length ∧ i = -1) ∨ ∃ (ds : List PyData) (j : Nat) (e : PyData), rowsOf d = some ds ∧ ds.length ≤ most ∧ ds[j]? = some e ∧ f e = false ∧ (∀ (k : Nat) e', k < j → ds[k]? = some e' → f e' = true) ∧ i = j
def RowGood (f : PyData → Bool) (most : Nat) (d : PyData) (ds : List PyData) : Prop := rowsOf d = some ds ∧ ds.length ≤ most ∧ ∀ e ∈ ds, f e = true
theorem ChkEnd.of {E : XK} {H : Hp} {Q : VK} {f : PyData → Bool} {most : Nat} {z : Str} {D : List PyData → PyData} {d : PyData} (h1 : ∀ i, RowBad f most d i → OutM K E H z i) (h2 : ∀ ds, RowGood f most d ds → ∀ a H', Same H H' → Im H' (.ref a) (D ds) → Q (.ref a) H') : ChkEnd K E H Q f most z D d :=
  ⟨fun e => h1 _ (.inl ⟨e, rfl⟩), fun ds e l => h1 _ (.inr (.inl ⟨ds, e, l, rfl⟩)), fun ds i e e1 l e2 e3 e4 => h1 _ (.inr (.inr ⟨ds, i, e, e1, l, e2, e3, e4, rfl⟩)), fun ds e l g => h2 ds ⟨e, l, g⟩⟩
/-- BadMachine(z, i) goes out, all but p as it was -/
def OutP (K : PySem.W.Frag) (E : XK) (p : Addr) (H : Hp) (z : Str) (i : Int) : Prop := ∀ d H', But p H H' → H' d = some (.xd [("at", .int i), ("what", .str z)]) → E (.ref (He.ga K "BadMachine")) (some d) H'
theorem OutP.at {E : XK} {p : Addr} {H H' : Hp} {z : Str} {i : Int} (b : But p H H') (h : OutP K E p H z i) : OutM K E H' z i := fun d H2 s e => h d H2 (b.trans (But.of s)) e
def MachEnd (K : PySem.W.Frag) (bad : Str → Int → Prop) (good : Int → List (Int × Int) → List Ar → Prop) (dn dx dy : PyData) : Prop :=
  (wDd 1 200 dn = false → bad "stations" (-1)) ∧ ∀ n, dn = .int n → 1 ≤ n → n ≤ 200 → (∀ i, RowBad (isStart n) 60 dx i → bad "starts" i) ∧
  ∀ ds, RowGood (isStart n) 60 dx ds → (∀ i, RowBad (isArrow n) 4000 dy i → bad "arrows" i) ∧ ∀ es, RowGood (isArrow n) 4000 dy es → good n (ds.map stOf) (es.map arOf)
def spMi (K : PySem.W.Frag) (C : Addr) : Sp := fun vs H Q E => ∃ (p q dx : Addr) (xn x y : V) (dn d e : PyData), vs = [.ref p, xn, x, y] ∧ H p = some (.ins C dx []) ∧ Tg q H xn dn ∧ Tg q H x d ∧ Tg q H y e ∧ (∀ xs, H q ≠ some (.tup xs)) ∧ p ≠ q ∧
  MachEnd K (OutP K E p H) (fun n ss rs => ∀ r H', MachAt C H' p n ss rs r → But p H H' → Q .non H') dn d e
abbrev s_mi : Stmt := inClass (top 25) 0
abbrev N_mi : List Str := ["self", "stations", "starts", "arrows"]
theorem sc_mi : FnScope N_mi ["self", "stations", "starts", "arrows"] (defScope s_mi) := ⟨rfl, rfl, rfl, by decide +kernel, rfl, by decide +kernel, by decide +kernel⟩
theorem putF_small {f : Str} {v : V} {fs : List (Str × V)} {n : Nat} (h : fs.length ≤ n) : (putF f v fs).length ≤ n + 1 := Nat.le_trans (length_putF f v fs) (by omega)
mutual
theorem Tg.but2 {p q : Addr} {H H' : Hp} {xs : List (Str × V)} {C dx : Addr} (hp : H p = some (.ins C dx xs)) (b : But p H H') : ∀ (d : PyData) (x : V), Tg q H x d → Tg q H' x d
  | .none, _, h => by cases h; exact .non
  | .bool _, _, h => by cases h; exact .bl _
  | .int _, _, h => by cases h; exact .int _
  | .str _, _, h => by cases h with | str _ sh => exact .str _ sh
  | .list ds, _, h => by cases h with | lst e ne r sh => exact .lst (b _ _ (ne_of e hp (fun z => nomatch z)) e) ne (TgAll.but2 hp b ds _ r) sh
  | .tuple ds, _, h => by cases h with | tup e ne r sh => exact .tup (b _ _ (ne_of e hp (fun z => nomatch z)) e) ne (TgAll.but2 hp b ds _ r) sh
theorem TgAll.but2 {p q : Addr} {H H' : Hp} {xs : List (Str × V)} {C dx : Addr} (hp : H p = some (.ins C dx xs)) (b : But p H H') : ∀ (ds : List PyData) (xs : List V), TgAll q H xs ds → TgAll q H' xs ds
  | [], _, h => by cases h; exact .nil
  | d :: ds, _, h => by cases h with | cons h r => exact .cons (Tg.but2 hp b d _ h) (TgAll.but2 hp b ds _ r)
end
theorem tt_put {H : Hp} {p C dx : Addr} {fs : List (Str × V)} {o : HO} (hp : H p = some (.ins C dx fs)) : ∀ a xs, H a = some (.tup xs) → upd H p o a = some (.tup xs) := fun a xs e => by
  rw [upd_ne (ne_of e hp (fun z => nomatch z))]
  exact e
theorem kp_mi {C g : Addr} (F : AtM K C g "__init__" "Machine.__init__" s_mi) (T : MachTxt K mg C) (S : ErrM P w K mg base) (mMOST_STATIONS : ∃ t, mg "MOST_STATIONS" = some (.int 200 t)) (Gw : Keeps CX0 P w K mg base "is_whole_from" 2 ["thing", "low", "high"] (spWfT K))
    (Gs : Keeps (CX P w) P w K mg base "_checked_starts" 4 ["stations", "starts"] (spChkR K isStart 60 "starts" startsOf)) (Ga : Keeps (CX P w) P w K mg base "_checked_arrows" 6 ["stations", "arrows"] (spChkR K isArrow 4000 "arrows" arrowsOf))
    (Gr : Keeps CX0 P w K mg base "_rim_of" 2 ["starts", "arrows"] spRimT) (Gb : Keeps CX0 P w K mg base "_block_of" 2 ["arrows"] spBlo) (Gv : Keeps CX0 P w K mg base "_leaving" 1 ["stations", "arrows"] spLea) :
    KeepsM (CX P w) P w K mg base g 7 ["self", "stations", "starts", "arrows"] (spMi K C) := by
  refine keepsM_ofX F sc_mi (fun _ _ _ _ _ _ us hl => match us, hl with | [_, _, _, _], _ => rfl) (fun vs H Q E h => ?_) (fun cdv A outer s H vs Q E hr h => ?_)
  · obtain ⟨p, q, dx, xn, x, y, dn, d, e, rfl, _⟩ := h
    rfl
  · obtain ⟨p, q, dx, xn, x, y, dn, d, e, rfl, hp, tn, tx, ty, hq, pq, k0, k⟩ := h
    obtain ⟨tS, mMOST_STATIONS⟩ := mMOST_STATIONS
    have r2 : Room 2 (A.deeper (envOfC "Machine.__init__" (defScope s_mi) s.heap.objs.size g cdv)) := hr.mono (by decide)
    have r4 : Room 4 (A.deeper (envOfC "Machine.__init__" (defScope s_mi) s.heap.objs.size g cdv)) := hr.mono (by decide)
    have r1 : Room 1 (A.deeper (envOfC "Machine.__init__" (defScope s_mi) s.heap.objs.size g cdv)) := hr.mono (by decide)
    refine ⟨_, (pss_cons (ps_if (pt_not (pt_val (pe_k Gw r2 (by rfl) pass0 (pa_cons (pv 1) (pa_cons pe_int (pa_cons (pe_glob (v := .int 200) (by rfl) mMOST_STATIONS ⟨_, rfl⟩) pa_nil)))))) (pss_one (ps_raise rfl (takes_of rfl rfl rfl rfl) (by exact pmk_bm S r2 (by rfl) (pa_cons pe_str (pa_cons (pe_un un_neg pe_int) pa_nil))))) pss_nil)
        (pss_cons (ps_fld (pv 0) (pv 1) rfl)
        (pss_cons (ps_fld (pv 0) (pe_k Gs r4 (by rfl) (passes_call (takes_of rfl rfl rfl rfl) (fun _ _ _ _ h => h)) (pa_cons (pv 1) (pa_cons (pv 2) pa_nil))) rfl)
        (pss_cons (ps_fld (pv 0) (pe_k Ga hr (by rfl) (passes_call (takes_of rfl rfl rfl rfl) (fun _ _ _ _ h => h)) (pa_cons (pv 1) (pa_cons (pv 3) pa_nil))) rfl)
        (pss_cons (ps_fld (pv 0) (pe_k Gr r2 (by rfl) pass0 (pa_cons (pe_fld (pv 0) rfl) (pa_cons (pe_fld (pv 0) rfl) pa_nil))) rfl)
        (pss_cons (ps_fld (pv 0) (pe_k Gb r2 (by rfl) pass0 (pa_cons (pe_fld (pv 0) rfl) pa_nil)) rfl)
        (pss_one (ps_fld (pv 0) (pe_k Gv r1 (by rfl) pass0 (pa_cons (pv 1) (pa_cons (pe_fld (pv 0) rfl) pa_nil))) rfl)))))))), ?_⟩
    refine ⟨_, rfl, xn, dn, 1, 200, rfl, tn.dp, _, rfl, ?_⟩
    cases en : wDd 1 200 dn with
    | false => exact iteT (mko_ok (K := K) (fun _ q => ⟨_, rfl, q⟩) rfl (by show 2 ≤ 1000; decide) fun dd H' s3 ed => k0 en dd H' (But.of s3) ed)
    | true =>
      obtain ⟨n, rfl, n1, n2⟩ := wDd_ok en
      obtain ⟨k1, k2⟩ := k n rfl n1 n2
      cases tn
      have f1 : (putF "stations" (V.int n) []).length ≤ 1 := putF_small (Nat.le_refl 0)
      refine iteF ⟨_, rfl, _, rfl, p, C, dx, _, rfl, hp, T.cl, T.n1, (by show 0 < 1000; decide), ?_⟩
      have b1 : But p H (upd H p (.ins C dx (putF "stations" (V.int n) []))) := (But.refl p H).upd
      refine ⟨_, rfl, _, rfl, q, n, x, d, rfl, Tg.but2 hp b1 _ _ tx, ChkEnd.of (fun i hi => (k1 i hi).at b1) (fun ds gd a H2 s2 ia => ?_)⟩
      obtain ⟨k3, k4⟩ := k2 ds gd
      have hp2 := s2 _ _ (upd_same (H := H) (a := p) (o := .ins C dx (putF "stations" (V.int n) [])))
      have b2 : But p H H2 := b1.trans (But.of s2)
      have f2 := putF_small (f := "starts") (v := V.ref a) f1
      refine ⟨_, rfl, p, C, dx, _, rfl, hp2, T.cl, T.n2, (by omega), ?_⟩
      have b3 : But p H (upd H2 p (.ins C dx (putF "starts" (V.ref a) (putF "stations" (V.int n) [])))) := b2.upd
      refine ⟨_, rfl, _, rfl, q, n, y, e, rfl, Tg.but2 hp b3 _ _ ty, ChkEnd.of (fun i hi => (k3 i hi).at b3) (fun es ge b H4 s4 ib => ?_)⟩
      have k5 := k4 es ge
      have hp4 := s4 _ _ (upd_same (H := H2) (a := p) (o := .ins C dx (putF "starts" (V.ref a) (putF "stations" (V.int n) []))))
      have b4 : But p H H4 := b3.trans (But.of s4)
      have ia4 : Im H4 (.ref a) (startsOf ds) := Im.kt (Kt.of s4) _ _ (Im.tt (tt_put hp2) _ _ ia)
      have f3 := putF_small (f := "arrows") (v := V.ref b) f2
      refine ⟨_, rfl, p, C, dx, _, rfl, hp4, T.cl, T.n3, (by omega), ?_⟩
      have b5 : But p H (upd H4 p (.ins C dx (putF "arrows" (V.ref b) (putF "starts" (V.ref a) (putF "stations" (V.int n) []))))) := b4.upd
      have ia5 := Im.tt (tt_put (o := .ins C dx (putF "arrows" (V.ref b) (putF "starts" (V.ref a) (putF "stations" (V.int n) [])))) hp4) _ _ ia4
      have ib5 := Im.tt (tt_put (o := .ins C dx (putF "arrows" (V.ref b) (putF "starts" (V.ref a) (putF "stations" (V.int n) [])))) hp4) _ _ ib
      obtain ⟨_, xs, ea, hxa, ixa⟩ := (show Im _ (.ref a) (.tuple ((ds.map stOf).map stD)) from ia5).ref
      cases ea
      obtain ⟨_, ys, eb, hyb, iyb⟩ := (show Im _ (.ref b) (.tuple ((es.map arOf).map Ar.d)) from ib5).ref
      cases eb
      have ok : ∀ r ∈ es.map arOf, r.m.Ok := fun r hr2 => by
        obtain ⟨e0, he, rfl⟩ := List.mem_map.mp hr2
        exact (isArrow_ok (ge.2.2 e0 he)).2.1
      have oo : ∀ r ∈ es.map arOf, 0 ≤ r.o ∧ r.o < n := fun r hr2 => by
        obtain ⟨e0, he, rfl⟩ := List.mem_map.mp hr2
        obtain ⟨_, _, h1, h2, _⟩ := isArrow_ok (ge.2.2 e0 he)
        exact ⟨h1, h2⟩
      have lds : (ds.map stOf).length ≤ 60 := by rw [List.length_map]; exact gd.2.1
      have les : (es.map arOf).length ≤ 4000 := by rw [List.length_map]; exact ge.2.1
      refine ⟨_, rfl, p, C, dx, _, _, rfl, upd_same, T.cl, T.n2, (by rw [lookup_putF, if_neg (by decide +kernel), lookup_putF, if_pos rfl]), _, rfl, p, C, dx, _, _, rfl, upd_same, T.cl, T.n3, (by rw [lookup_putF, if_pos rfl]), ?_⟩
      refine ⟨a, b, xs, ys, ds.map stOf, es.map arOf, rfl, hxa, ixa, hyb, iyb, lds, les, fun r H6 ir s6 => ?_⟩
      have hp6 := s6 _ _ (upd_same (H := H4) (a := p) (o := .ins C dx (putF "arrows" (V.ref b) (putF "starts" (V.ref a) (putF "stations" (V.int n) [])))))
      have f4 := putF_small (f := "rim") (v := V.int r) f3
      refine ⟨_, rfl, p, C, dx, _, rfl, hp6, T.cl, T.n4, (by omega), ?_⟩
      refine ⟨_, rfl, p, C, dx, _, _, rfl, upd_same, T.cl, T.n3, (by rw [lookup_putF, if_neg (by decide +kernel), lookup_putF, if_pos rfl]), ?_⟩
      refine ⟨b, ys, es.map arOf, rfl, tt_put hp6 _ _ (s6 _ _ hyb), ImAll.tt (tt_put hp6) _ _ (im_all_kt (Kt.of s6) iyb), les, ok, fun H8 s8 => ?_⟩
      have hp8 := s8 _ _ (upd_same (H := H6) (a := p))
      have f5 := putF_small (f := "block") (v := V.int (blockOf (toldOf (es.map arOf)))) f4
      refine ⟨_, rfl, p, C, dx, _, rfl, hp8, T.cl, T.n5, (by omega), ?_⟩
      have im8 : ∀ dd (c : Addr), Im (upd H4 p (.ins C dx (putF "arrows" (V.ref b) (putF "starts" (V.ref a) (putF "stations" (V.int n) []))))) (.ref c) dd → Im H8 (.ref c) dd := fun dd c i => Im.kt (Kt.of s8) _ _ (Im.tt (tt_put hp6) _ _ (Im.kt (Kt.of s6) _ _ i))
      have iy8 : ImAll H8 ys ((es.map arOf).map Ar.d) := im_all_kt (Kt.of s8) (ImAll.tt (tt_put hp6) _ _ (im_all_kt (Kt.of s6) iyb))
      have hy8 : H8 b = some (.tup ys) := s8 _ _ (tt_put hp6 _ _ (s6 _ _ hyb))
      refine ⟨_, rfl, _, rfl, p, C, dx, _, _, rfl, upd_same, T.cl, T.n3, (by rw [lookup_putF, if_neg (by decide +kernel), lookup_putF, if_neg (by decide +kernel), lookup_putF, if_pos rfl]), ?_⟩
      refine ⟨b, n.toNat, ys, es.map arOf, (by rw [show ((n.toNat : Nat) : Int) = n by omega]; rfl), tt_put hp8 _ _ hy8, ImAll.tt (tt_put hp8) _ _ iy8, les, (by omega), (fun r hr2 => by rw [show ((n.toNat : Nat) : Int) = n by omega]; exact oo r hr2), fun l H10 s10 => ?_⟩
      have hp10 := s10 _ _ (upd_same (H := H8) (a := p))
      refine ⟨_, rfl, p, C, dx, _, rfl, hp10, T.cl, T.n6, (by omega), ?_⟩
      have fin : ∀ dd (c : Addr), Im H8 (.ref c) dd → ∀ o, Im (upd H10 p o) (.ref c) dd := fun dd c i o => Im.tt (tt_put hp10) _ _ (Im.kt (Kt.of s10) _ _ (Im.tt (tt_put hp8) _ _ i))
      refine k5 r _ ⟨dx, a, b, l, upd_same, ir, fin _ _ (im8 _ _ ia5) _, fin _ _ (im8 _ _ ib5) _, ok⟩ ?_
      exact (((b5.trans (But.of s6)).upd.trans (But.of s8)).upd.trans (But.of s10)).upd
end
end My
set_option Elab.async false
set_option linter.all false
set_option maxRecDepth 100000
set_option maxHeartbeats 8000000
namespace My
open PySem PySem.Spec PyProof.Rows L2
local macro_rules | `(tactic| walk_at "lv") => `(tactic| first | exact Or.inl rfl | exact Or.inr rfl)
/-! ### C(e, ..) whose __init__ may raise, in a try -/
section
variable {X : L2.Cx} {CY : CXT} {k : Nat} {f C : Addr} {fd : FuncData} {ps : List Str} {sp : Sp} {E : L2.St → XK} {x : Str} {p pos : Pos} {e : Expr} {es : List Expr} {t : TA}
def tMakeS (C : Addr) (sp : Sp) (E : L2.St → XK) (t : TA) : TE := fun σ H Q => t σ H fun vs H1 => ∀ x dx, H1 x = none → H1 dx = none → dx ≠ x → sp (.ref x :: (vs ++ [])) (upd (upd H1 dx (.own x)) x (.ins C dx [])) (fun v H2 => v = .non ∧ Q (.ref x) H2) (E σ)
theorem run_makeS {pins : List (Addr × Obj)} {σ : L2.St} {H : Hp} {s : Shared} {Q : VK} {us ds : List Value} {vs dvs : List V} (M : Mk X.K C f) (F : FnOk X.prog X.w X.K X.mg X.base CY k f fd ps sp) (hr : Room (k + 1) X.A) (hb : Binds X.K fd ps ds) (hd : Vals dvs ds)
    (out : PassesAt CY X σ (E σ)) (I : Inv X pins σ H s) (r : Vals vs us) (w0 : ∀ x dx, H x = none → H dx = none → dx ≠ x → sp (.ref x :: (vs ++ dvs)) (upd (upd H dx (.own x)) x (.ins C dx [])) (fun v H2 => v = .non ∧ Q (.ref x) H2) (E σ)) : wpAny (model X.prog X.w) X.A (call (.ref C) us) (EP X pins σ Q) X.xe s := by
  have new : ∀ j, H (s.heap.objs.size + j) = none := fun j => I.hok.fresh (Nat.le_add_right _ j)
  have goal := w0 _ _ (new 1) (new 0) (Nat.ne_of_lt (Nat.lt_succ_self s.heap.objs.size))
  have J := Inv.made (C := C) (pins := pins) (σ := σ) I
  have args : Vals (V.ref (s.heap.objs.size + 1) :: (vs ++ dvs)) (Value.ref (s.heap.objs.size + 1) :: (us ++ ds)) := .cons rfl (Vals.append r hd)
  have many : (Value.ref (s.heap.objs.size + 1) :: (us ++ ds)).length = ps.length := args.length.symm.trans (F.len _ _ _ _ goal)
  have ran := F.run _ X.stack _ _ ⟨Value.ref (s.heap.objs.size + 1) :: us, []⟩ _ _ _ (E σ) (hr.make C us []) (J.env0.make C us []) (hb _ (Value.ref (s.heap.objs.size + 1) :: us) J.kIn many) args goal
  refine wpAny_call (make_map (f := f) I.kIn M.makes M.init (beq_iff_eq.mp M.fn) (codeAny_mono ran ?_))
  rintro (er | fl) s2 got
  · exact out pins _ _ er s2 J got
  · match fl, got with
    | .ret u, got =>
      obtain ⟨v, H', J2, rv, e0, q⟩ := J.after got
      exact ⟨(e0 ▸ rv : RelV .non u), .ref (s.heap.objs.size + 1), H', J2, rfl, q⟩
    | .next, got => exact got.elim
    | .brk, got => exact got.elim
    | .cont, got => exact got.elim
theorem pe_makeS (M : Mk X.K C f) (F : FnOk X.prog X.w X.K X.mg X.base CY k f fd ps sp) (hr : Room (k + 1) X.A) (hg : Gl X x) (hm : X.mg x = some (.ref C)) (hb : Binds X.K fd ps []) (out : ∀ σ, PassesAt CY X σ (E σ)) (ha : PA X (e :: es) t)
    (hdb : (x == ("__debug__" : Str)) = false := by decide) (st : starEach (e :: es) X.env = (false, eval e X.env) :: starEach es X.env := by rfl) (pl : (backTo pos (starEach es X.env)).any (·.1) = false := by rfl) : PE X (.Call (.Name x p) (e :: es) [] pos) (tMakeS C sp E t) where
  run pins s σ H Q I w0 := wpAny_Call_Name_kw (ld_glob I hg hm (PySem.W.callWith_K (h₀ := X.base) I.ok.mod.kin M.kp (thn (ha.run pos pins s σ H _ I w0) fun _ _ ⟨_, _, J, r, q⟩ => ⟨J.kIn, run_makeS (dvs := []) M F hr hb .nil (out σ) J r q⟩) st pl) hdb)
end
section
variable {P : Program} {w : World} {K : PySem.W.Frag} {mg : Str → Option Value} {base : Heap}
/-- what Machine(xn, x, y) asks, from the heap H -/
def MachAsk (K : PySem.W.Frag) (E : XK) (H : Hp) (Q : Addr → Hp → Prop) (dn dx dy : PyData) : Prop := MachEnd K (OutM K E H) (fun n ss rs => ∀ m r H', Same H H' → MachAt (He.ga K "Machine") H' m n ss rs r → Q m H') dn dx dy
theorem mi_make {E : XK} {H : Hp} {Q : Addr → Hp → Prop} {q : Addr} {zs : List V} {xn x y : V} {dn d e : PyData} (hq : H q = some (.lst zs)) (tn : Tg q H xn dn) (tx : Tg q H x d) (ty : Tg q H y e) (k : MachAsk K E H Q dn d e) :
    ∀ m dx, H m = none → H dx = none → dx ≠ m → spMi K (He.ga K "Machine") (.ref m :: ([xn, x, y] ++ [])) (upd (upd H dx (.own m)) m (.ins (He.ga K "Machine") dx [])) (fun v H2 => v = .non ∧ Q m H2) E := by
  intro m dx hm hdx ne
  have sx : Same H (upd (upd H dx (.own m)) m (.ins (He.ga K "Machine") dx [])) := fun b o e => by
    rw [upd_ne (ne_of_none e hm), upd_ne (ne_of_none e hdx)]
    exact e
  have sb : ∀ H', But m (upd (upd H dx (.own m)) m (.ins (He.ga K "Machine") dx [])) H' → Same H H' := fun H' b c o e => b c o (ne_of_none e hm) (sx c o e)
  obtain ⟨k0, k1⟩ := k
  refine ⟨m, q, dx, xn, x, y, dn, d, e, rfl, upd_same, tn.same sx, tx.same sx, ty.same sx, (fun xs z => ?_), (ne_of_none hq hm).symm, fun z dd H' b ed => k0 z dd H' (sb H' b) ed, fun n hn n1 n2 => ?_⟩
  · rw [sx _ _ hq] at z
    cases z
  · obtain ⟨k2, k3⟩ := k1 n hn n1 n2
    refine ⟨fun i hi dd H' b ed => k2 i hi dd H' (sb H' b) ed, fun ds gd => ⟨fun i hi dd H' b ed => (k3 ds gd).1 i hi dd H' (sb H' b) ed, fun es ge r H' ma b => ⟨rfl, (k3 ds gd).2 es ge m r H' (sb H' b) ma⟩⟩⟩
theorem RowBad.no {f : PyData → Bool} {most : Nat} {d : PyData} {ds : List PyData} {i : Int} (g : RowGood f most d ds) (b : RowBad f most d i) : False := by
  obtain ⟨e, l, a⟩ := g
  rcases b with ⟨b, _⟩ | ⟨es, b, c, _⟩ | ⟨es, j, x, b, c, b3, b4, _⟩
  · rw [e] at b; cases b
  · rw [e] at b; cases b; omega
  · rw [e] at b
    cases b
    rw [a x (List.mem_of_getElem? b3)] at b4
    cases b4
theorem RowGood.uniq {f : PyData → Bool} {most : Nat} {d : PyData} {ds es : List PyData} (g : RowGood f most d ds) (g2 : RowGood f most d es) : ds = es := Option.some.inj (g.1.symm.trans g2.1)
/-- all is well -/
theorem mach_good {E : XK} {H : Hp} {Q : Addr → Hp → Prop} {n : Int} {dx dy : PyData} {ds es : List PyData} (hn : 1 ≤ n ∧ n ≤ 200) (gs : RowGood (isStart n) 60 dx ds) (ga : RowGood (isArrow n) 4000 dy es)
    (k : ∀ m r H', Same H H' → MachAt (He.ga K "Machine") H' m n (ds.map stOf) (es.map arOf) r → Q m H') : MachAsk K E H Q (.int n) dx dy := by
  refine ⟨fun z => absurd (z.symm.trans (wDd_int hn)) Bool.false_ne_true, fun n' e n1 n2 => ?_⟩
  cases e
  refine ⟨fun i hi => (RowBad.no gs hi).elim, fun ds' gd => ⟨fun i hi => (RowBad.no ga hi).elim, fun es' ge => ?_⟩⟩
  obtain rfl := gs.uniq gd
  obtain rfl := ga.uniq ge
  exact k
/-! ### Machine.__eq__ -/
def spMe (C : Addr) : Sp := fun vs H Q _ => ∃ (p q : Addr) (n n' r r' : Int) (ss ss' : List (Int × Int)) (rs rs' : List Ar), vs = [.ref p, .ref q] ∧ MachAt C H p n ss rs r ∧ MachAt C H q n' ss' rs' r' ∧
  ((n = n' ∧ ss = ss' ∧ rs = rs' ∧ Q (.bl true) H) ∨ ((n ≠ n' ∨ ss.length ≠ ss'.length ∨ rs.length ≠ rs'.length) ∧ Q (.bl false) H))
abbrev s_me : Stmt := inClass (top 25) 1
abbrev N_me : List Str := ["self", "other"]
theorem sc_me : FnScope N_me ["self", "other"] (defScope s_me) := ⟨rfl, rfl, rfl, by decide +kernel, rfl, by decide +kernel, by decide +kernel⟩
theorem eqv_tl {a b : List PyData} (h : PyData.eqv (.tuple a) (.tuple b) = true) : a.length = b.length := by
  have h : PyData.eqvAll a b = true := by simpa [PyData.eqv] using h
  by_cases e : a.length = b.length
  · exact e
  · rw [SeqAt.eqvAll_other_length e] at h
    cases h
theorem shp_refl {d : PyData} (h : SeqAt.shaped d = true) : PyData.eqv d d = true   := SeqAt.eqv_refl d (SeqAt.canLay_of_shaped h)
theorem vdec {a b : Int} : decide (V.int a = V.int b) = decide (a = b) := vint
theorem kp_me {C g : Addr} (F : AtM K C g "__eq__" "Machine.__eq__" s_me) (T : MachTxt K mg C) (N : Nb mg) : KeepsM CX0 P w K mg base g 1 ["self", "other"] (spMe C) := by
  refine keepsM_of F sc_me (fun _ _ _ _ _ _ us hl => match us, hl with | [_, _], _ => rfl) (fun vs H Q E h => ?_) (fun cdv A outer s H vs Q E hr h => ?_)
  · obtain ⟨p, q, n, n', r, r', ss, ss', rs, rs', rfl, _⟩ := h
    rfl
  · obtain ⟨p, q, n, n', r, r', ss, ss', rs, rs', rfl, ⟨dx, a, b, l, hp, ir, ia, ib, _⟩, ⟨dx', a', b', l', hp', ir', ia', ib', _⟩, k⟩ := h
    refine ⟨_, (pss_one (ps_ret (pe_and (pe_callB call_isi (by rfl) N.isinstance boot_isinstance (pa_cons (pv 1) (pa_cons (pe_glob (v := .ref C) (by rfl) T.mgC rfl) pa_nil))) (pe_and (pe_cmpR op_eq (pe_fld (pv 0) rfl) (pe_fld (pv 1) rfl) (nomark _)) (pe_and (pe_cmpR (op_eqD hr.units) (pe_fld (pv 0) rfl) (pe_fld (pv 1) rfl) (nomark _)) (pe_and (pe_cmpR (op_eqD hr.units) (pe_fld (pv 0) rfl) (pe_fld (pv 1) rfl) (nomark _)) (pe_and (pe_cmpR op_eq (pe_fld (pv 0) rfl) (pe_fld (pv 1) rfl) (nomark _)) (pe_one (pe_cmpR op_eq (pe_fld (pv 0) rfl) (pe_fld (pv 1) rfl) (nomark _)))))))))), ?_⟩
    refine ⟨_, rfl, .ref q, .ref C, _, _, true, rfl, .own C, .base (.ins hp' T.cl T.ha T.hn T.ht T.hm), T.isM, _, rfl, ?_⟩
    refine ⟨_, rfl, p, C, dx, _, _, rfl, hp, T.cl, T.n1, mf_stations, _, rfl, q, C, dx', _, _, rfl, hp', T.cl, T.n1, mf_stations, rfl, _, rfl, ?_⟩
    have no : ∀ b : Bool, b = false → (n = n' → ss = ss' → rs = rs' → b = true) → Q (.bl b) H := fun b hb hc => by
      subst hb
      rcases k with ⟨k1, k2, k3, _⟩ | ⟨_, k4⟩
      · exact absurd (hc k1 k2 k3) Bool.false_ne_true
      · exact k4
    rw [vdec]
    cases e1 : decide (n = n') with
    | false => exact iteF (no _ rfl fun h _ _ => absurd h (of_decide_eq_false e1))
    | true =>
    refine iteT ⟨_, rfl, p, C, dx, _, _, rfl, hp, T.cl, T.n2, mf_starts, _, rfl, q, C, dx', _, _, rfl, hp', T.cl, T.n2, mf_starts, _, _, Im.dp _ _ ia, Im.dp _ _ ia', shp_starts _, shp_starts _, _, rfl, ?_⟩
    cases e2 : PyData.eqv (startsD ss) (startsD ss') with
    | false => exact iteF (no _ rfl fun _ h _ => by rw [h, shp_refl (shp_starts ss')] at e2; exact e2.symm)
    | true =>
    refine iteT ⟨_, rfl, p, C, dx, _, _, rfl, hp, T.cl, T.n3, mf_arrows, _, rfl, q, C, dx', _, _, rfl, hp', T.cl, T.n3, mf_arrows, _, _, Im.dp _ _ ib, Im.dp _ _ ib', shp_arrows _, shp_arrows _, _, rfl, ?_⟩
    cases e3 : PyData.eqv (arrowsD rs) (arrowsD rs') with
    | false => exact iteF (no _ rfl fun _ _ h => by rw [h, shp_refl (shp_arrows rs')] at e3; exact e3.symm)
    | true =>
    have l1 := eqv_tl e2
    have l2 := eqv_tl e3
    rw [List.length_map, List.length_map] at l1 l2
    rcases k with ⟨k1, k2, k3, k4⟩ | ⟨kn, _⟩
    · subst k2 k3
      obtain rfl := ir.uniq ir'
      refine iteT ⟨_, rfl, p, C, dx, _, _, rfl, hp, T.cl, T.n4, mf_rim, _, rfl, q, C, dx', _, _, rfl, hp', T.cl, T.n4, mf_rim, rfl, _, rfl, ?_⟩
      rw [vdec, decide_eq_true rfl]
      refine iteT ⟨_, rfl, p, C, dx, _, _, rfl, hp, T.cl, T.n5, mf_block, _, rfl, q, C, dx', _, _, rfl, hp', T.cl, T.n5, mf_block, rfl, ?_⟩
      rw [vdec, decide_eq_true rfl]
      exact k4
    · rcases kn with kn | kn | kn
      · exact absurd (of_decide_eq_true e1) kn
      · exact absurd l1 kn
      · exact absurd l2 kn
end
end My
set_option Elab.async false
set_option linter.all false
set_option maxRecDepth 100000
set_option maxHeartbeats 8000000
namespace My
open PySem PySem.Spec PyProof.Rows L2
local macro_rules | `(tactic| walk_at "lv") => `(tactic| first | exact Or.inl rfl | exact Or.inr rfl)
/-! ### rooms -/
def sgn (x : Int) : Int := if x > 0 then 1 else -1
theorem sgn_small (x : Int) : -(2 ^ 64) < sgn x ∧ sgn x < 2 ^ 64 := by unfold sgn; split <;> omega
/-- the room of x and its height, told -/
def RoomEnd (H : Hp) (Q : VK) (st x r k : Int) : Prop := (ab x ≤ r → Q .non H) ∧ (r < ab x → ∀ q t H', Same H H' → H' q = some (.tup [.ref t, .int ((ab x - r - 1) / k)]) → H' t = some (.tup [.int st, .int (sgn x), .int ((ab x - r - 1) % k)]) → Q (.ref q) H')
section
variable {P : Program} {w : World} {K : PySem.W.Frag} {mg : Str → Option Value} {base : Heap}
def spRo (C : Addr) : Sp := fun vs H Q _ => ∃ (p : Addr) (st x n r : Int) (ss : List (Int × Int)) (rs : List Ar), vs = [.ref p, .int st, .int x] ∧ MachAt C H p n ss rs r ∧ RoomEnd H Q st x r (blockOf (toldOf rs))
abbrev s_ro : Stmt := top 34
abbrev N_ro : List Str := ["machine", "station", "number", "side", "height", "rest"]
theorem sc_ro : FnScope N_ro ["machine", "station", "number"] (defScope s_ro) := ⟨rfl, rfl, rfl, by decide +kernel, rfl, by decide +kernel, by decide +kernel⟩
theorem kp_ro {C : Addr} (F : At K mg "room_of" s_ro) (T : MachTxt K mg C) (N : Nb mg) (nDiv : mg "divmod" = none) : Keeps CX0 P w K mg base "room_of" 1 ["machine", "station", "number"] (spRo C) := by
  refine keeps_of F sc_ro (fun _ _ _ _ _ _ us hl => match us, hl with | [_, _, _], _ => rfl) (fun vs H Q E h => ?_) (fun f cdv A outer s H vs Q E hr h => ?_)
  · obtain ⟨p, st, x, n, r, ss, rs, rfl, _⟩ := h
    rfl
  · obtain ⟨p, st, x, n, r, ss, rs, rfl, ⟨dx, a, b, l, hp, ir, ia, ib, ok⟩, k1, k2⟩ := h
    have bp := blockOf_pos (told_ok ok)
    refine ⟨_, (pss_cons (ps_if (pt_cmpR op_le (pe_callB call_abs (by rfl) N.abs (by decide +kernel) (pa_cons (pv 2) pa_nil)) (pe_fld (pv 0) rfl) (nomark _)) (pss_one (ps_ret pe_non)) pss_nil)
        (pss_cons (ps_set (i := 3) sc_ro.nd rfl (by walk_at "lv") (pe_ifExp (pt_cmpR op_gt (pv 2) pe_int (nomark _)) pe_int (pe_un un_neg pe_int)))
        (pss_cons (ps_asg (pe_callB call_divmod (by rfl) nDiv (by decide +kernel) (pa_cons (pe_op op_sub (pe_op op_sub (pe_callB call_abs (by rfl) N.abs (by decide +kernel) (pa_cons (pv 2) pa_nil)) (pe_fld (pv 0) rfl)) pe_int) (pa_cons (pe_fld (pv 0) rfl) pa_nil))) (pg_tup (by rfl) (pgs_cons (pg_name (i := 4) sc_ro.nd rfl (by walk_at "lv")) (pgs_cons (pg_name (i := 5) sc_ro.nd rfl (by walk_at "lv")) pgs_nil))))
        (pss_one (ps_ret (pe_tup (pa_cons (pe_tup (pa_cons (pv 1) (pa_cons (pv 3) (pa_cons (pv 5) pa_nil)))) (pa_cons (pv 4) pa_nil)))))))), ?_⟩
    refine ⟨_, rfl, x, rfl, _, rfl, p, C, dx, _, _, rfl, hp, T.cl, T.n4, mf_rim, ab x, r, rfl, rfl, _, rfl, ite2 (fun h1 => ?_) (fun h1 => ?_)⟩
    · exact k1 (of_decide_eq_true h1)
    · have h1 : ¬ ab x ≤ r := fun z => h1 (decide_eq_true z)
      have go : ∀ sd : Int, sd = sgn x → _ := fun sd hs => k2 (by omega)
      refine ⟨_, rfl, _, _, rfl, rfl, _, rfl, ite2 (fun h2 => ?_) (fun h2 => ?_)⟩
      · have es : sgn x = 1 := by
          unfold sgn
          rw [if_pos (of_decide_eq_true h2)]
        refine ⟨_, rfl, x, rfl, _, rfl, p, C, dx, _, _, rfl, hp, T.cl, T.n4, mf_rim, ab x, r, rfl, rfl, _, _, rfl, rfl, _, rfl, p, C, dx, _, _, rfl, hp, T.cl, T.n5, mf_block, _, _, rfl, ⟨bp.1, by omega⟩, fun q hq => ?_⟩
        refine ⟨q, _, rfl, SqT.of upd_same, rfl, _, _, rfl, _, _, rfl, rfl, ?_⟩
        refine ⟨_, rfl, _, rfl, _, rfl, (by show 3 ≤ sizeLine; decide), fun t ht => ⟨_, rfl, (by show 2 ≤ sizeLine; decide), fun q2 hq2 => ?_⟩⟩
        refine k2 (by omega) q2 t _ (same_new (same_new (same_new (Same.refl H) hq) ht) hq2) upd_same ?_
        rw [upd_ne (ne_of_none upd_same hq2), es]
        exact upd_same
      · have es : sgn x = -1 := by
          unfold sgn
          rw [if_neg (fun z => h2 (decide_eq_true z))]
        refine ⟨_, rfl, _, rfl, x, rfl, _, rfl, p, C, dx, _, _, rfl, hp, T.cl, T.n4, mf_rim, ab x, r, rfl, rfl, _, _, rfl, rfl, _, rfl, p, C, dx, _, _, rfl, hp, T.cl, T.n5, mf_block, _, _, rfl, ⟨bp.1, by omega⟩, fun q hq => ?_⟩
        refine ⟨q, _, rfl, SqT.of upd_same, rfl, _, _, rfl, _, _, rfl, rfl, ?_⟩
        refine ⟨_, rfl, _, rfl, _, rfl, (by show 3 ≤ sizeLine; decide), fun t ht => ⟨_, rfl, (by show 2 ≤ sizeLine; decide), fun q2 hq2 => ?_⟩⟩
        refine k2 (by omega) q2 t _ (same_new (same_new (same_new (Same.refl H) hq) ht) hq2) upd_same ?_
        rw [upd_ne (ne_of_none upd_same hq2), es]
        exact upd_same
/-! ### number_of -/
def spNo (C : Addr) : Sp := fun vs H Q _ => ∃ (p q : Addr) (st sd rest h n r : Int) (ss : List (Int × Int)) (rs : List Ar), vs = [.ref p, .ref q, .int h] ∧ MachAt C H p n ss rs r ∧ H q = some (.tup [.int st, .int sd, .int rest]) ∧ (-(2 ^ 64) < sd ∧ sd < 2 ^ 64) ∧ Q (.int (sd * (r + 1 + blockOf (toldOf rs) * h + rest))) H
abbrev s_no : Stmt := top 35
abbrev N_no : List Str := ["machine", "room", "height", "_", "side", "rest"]
theorem sc_no : FnScope N_no ["machine", "room", "height"] (defScope s_no) := ⟨rfl, rfl, rfl, by decide +kernel, rfl, by decide +kernel, by decide +kernel⟩
theorem kp_no {C : Addr} (F : At K mg "number_of" s_no) (T : MachTxt K mg C) : Keeps CX0 P w K mg base "number_of" 1 ["machine", "room", "height"] (spNo C) := by
  refine keeps_of F sc_no (fun _ _ _ _ _ _ us hl => match us, hl with | [_, _, _], _ => rfl) (fun vs H Q E h => ?_) (fun f cdv A outer s H vs Q E hr h => ?_)
  · obtain ⟨p, q, st, sd, rest, h, n, r, ss, rs, rfl, _⟩ := h
    rfl
  · obtain ⟨p, q, st, sd, rest, h, n, r, ss, rs, rfl, ⟨dx, a, b, l, hp, ir, ia, ib, ok⟩, hq, hs, k⟩ := h
    have bp := blockOf_pos (told_ok ok)
    refine ⟨_, (pss_cons (ps_asg (pv 1) (pg_tup (by rfl) (pgs_cons (pg_name (i := 3) sc_no.nd rfl (by walk_at "lv")) (pgs_cons (pg_name (i := 4) sc_no.nd rfl (by walk_at "lv")) (pgs_cons (pg_name (i := 5) sc_no.nd rfl (by walk_at "lv")) pgs_nil)))))
        (pss_one (ps_ret (pe_op op_mul (pv 4) (pe_op op_add (pe_op op_add (pe_op op_add (pe_fld (pv 0) rfl) pe_int) (pe_op op_mul (pe_fld (pv 0) rfl) (pv 2))) (pv 5)))))), ?_⟩
    refine ⟨_, rfl, q, _, rfl, SqT.of hq, rfl, _, _, rfl, _, _, rfl, _, _, rfl, rfl, ?_⟩
    exact ⟨_, rfl, _, rfl, p, C, dx, _, _, rfl, hp, T.cl, T.n4, mf_rim, _, _, rfl, rfl, _, rfl, p, C, dx, _, _, rfl, hp, T.cl, T.n5, mf_block, _, rfl, _, _, rfl, rfl, .inl ⟨by omega, by omega⟩, _, _, rfl, rfl, _, rfl, _, _, rfl, rfl, _, _, rfl, rfl, .inl hs, k⟩
/-! ### _law_room -/
def spLro : Sp := fun vs H Q _ => ∃ (r k st x : Int), vs = [.int r, .int k, .int st, .int x] ∧ (0 < k ∧ k < 2000) ∧ RoomEnd H Q st x r k
abbrev s_lro : Stmt := top 55
abbrev N_lro : List Str := ["_law_rim_here", "_law_block_here", "_law_station", "_law_number", "_law_beyond", "_law_side"]
theorem sc_lro : FnScope N_lro ["_law_rim_here", "_law_block_here", "_law_station", "_law_number"] (defScope s_lro) := ⟨rfl, rfl, rfl, by decide +kernel, rfl, by decide +kernel, by decide +kernel⟩
theorem kp_lro (F : At K mg "_law_room" s_lro) (N : Nb mg) : Keeps CX0 P w K mg base "_law_room" 1 ["_law_rim_here", "_law_block_here", "_law_station", "_law_number"] spLro := by
  refine keeps_of F sc_lro (fun _ _ _ _ _ _ us hl => match us, hl with | [_, _, _, _], _ => rfl) (fun vs H Q E h => ?_) (fun f cdv A outer s H vs Q E hr h => ?_)
  · obtain ⟨r, k, st, x, rfl, _⟩ := h
    rfl
  · obtain ⟨r, k, st, x, rfl, kb, k1, k2⟩ := h
    refine ⟨_, (pss_cons (ps_set (i := 4) sc_lro.nd rfl (by walk_at "lv") (pe_op op_sub (pe_op op_sub (pe_callB call_abs (by rfl) N.abs (by decide +kernel) (pa_cons (pv 3) pa_nil)) (pv 0)) pe_int))
        (pss_cons (ps_if (pt_cmpR op_lt (pv 4) pe_int (nomark _)) (pss_one (ps_ret pe_non)) pss_nil)
        (pss_cons (ps_set (i := 5) sc_lro.nd rfl (by walk_at "lv") (pe_ifExp (pt_cmpR op_gt (pv 3) pe_int (nomark _)) pe_int (pe_un un_neg pe_int)))
        (pss_one (ps_ret (pe_tup (pa_cons (pe_tup (pa_cons (pv 2) (pa_cons (pv 5) (pa_cons (pe_op op_mod (pe_callTy call_int1 (by rfl) N.int (by decide +kernel) (pa_cons (pv 4) pa_nil)) (pv 1)) pa_nil)))) (pa_cons (pe_op op_fdiv (pv 4) (pv 1)) pa_nil)))))))), ?_⟩
    refine ⟨_, rfl, x, rfl, _, rfl, ab x, r, rfl, rfl, _, _, rfl, rfl, _, rfl, _, _, rfl, rfl, _, rfl, ite2 (fun h1 => ?_) (fun h1 => ?_)⟩
    · have h1 := of_decide_eq_true h1
      exact k1 (by omega)
    · have h1 : ¬ ab x - r - 1 < 0 := fun z => h1 (decide_eq_true z)
      refine ⟨_, rfl, _, _, rfl, rfl, _, rfl, ite2 (fun h2 => ?_) (fun h2 => ?_)⟩
      · have es : sgn x = 1 := by
          unfold sgn
          rw [if_pos (of_decide_eq_true h2)]
        refine ⟨_, rfl, _, rfl, _, rfl, .inl ⟨_, rfl, _, rfl, _, _, rfl, rfl, kb.1, (by show 3 ≤ sizeLine; decide), fun t ht => ⟨_, rfl, _, rfl, _, _, rfl, rfl, ⟨kb.1, by omega⟩, (by show 2 ≤ sizeLine; decide), fun q2 hq2 => ?_⟩⟩⟩
        refine k2 (by omega) q2 t _ (same_new (same_new (Same.refl H) ht) hq2) upd_same ?_
        rw [upd_ne (ne_of_none upd_same hq2), es]
        exact upd_same
      · have es : sgn x = -1 := by
          unfold sgn
          rw [if_neg (fun z => h2 (decide_eq_true z))]
        refine ⟨_, rfl, _, rfl, _, rfl, _, rfl, .inl ⟨_, rfl, _, rfl, _, _, rfl, rfl, kb.1, (by show 3 ≤ sizeLine; decide), fun t ht => ⟨_, rfl, _, rfl, _, _, rfl, rfl, ⟨kb.1, by omega⟩, (by show 2 ≤ sizeLine; decide), fun q2 hq2 => ?_⟩⟩⟩
        refine k2 (by omega) q2 t _ (same_new (same_new (Same.refl H) ht) hq2) upd_same ?_
        rw [upd_ne (ne_of_none upd_same hq2), es]
        exact upd_same
end
end My
set_option Elab.async false
set_option linter.all false
set_option maxRecDepth 100000
set_option maxHeartbeats 8000000
namespace My
open PySem PySem.Spec PyProof.Rows L2
local macro_rules | `(tactic| walk_at "lv") => `(tactic| first | exact Or.inl rfl | exact Or.inr rfl)
def ArOk (n : Int) (r : Ar) : Prop := r.m.Ok ∧ (0 ≤ r.o ∧ r.o < n) ∧ 0 ≤ r.t ∧ r.t < n
/-- a list of arrows at l, new since H0; a hand at p -/
structure AL (p c : Addr) (H0 : Hp) (n : Int) (l : Addr) (H : Hp) (rs : List Ar) : Prop where
  h0 : HandC H0 p c
  b : But p H0 H
  h : HandC H p c
  nl : H0 l = none
  x : ∃ xs, H l = some (.lst xs) ∧ ImAll H xs (rs.map Ar.d)
  ok : ∀ r ∈ rs, ArOk n r
section
variable {p c l : Addr} {H0 H H' : Hp} {n : Int} {rs : List Ar}
theorem AL.lp (a : AL p c H0 n l H rs) : l ≠ p := (a.h0.ne a.nl).1.symm
theorem AL.but (a : AL p c H0 n l H rs) (b : But p H H') (h : HandC H' p c) : AL p c H0 n l H' rs := by
  obtain ⟨xs, e, i⟩ := a.x
  exact ⟨a.h0, a.b.trans b, h, a.nl, ⟨xs, b _ _ a.lp e, im_all_kt (Kt.hand a.h b) i⟩, a.ok⟩
theorem AL.same (a : AL p c H0 n l H rs) (s : Same H H') : AL p c H0 n l H' rs := a.but (But.of s) (a.h.same s)
theorem AL.len (a : AL p c H0 n l H rs) {xs : List V} (e : H l = some (.lst xs)) : xs.length = rs.length := by
  obtain ⟨ys, e2, i⟩ := a.x
  rw [e] at e2
  cases e2
  have := i.len
  rw [List.length_map] at this
  exact this
theorem AL.push (a : AL p c H0 n l H rs) {r : Ar} {q : Addr} {xs : List V} (e : H l = some (.lst xs)) (i : Im H (.ref q) r.d) (ok : ArOk n r) : AL p c H0 n l (upd H l (.lst (xs ++ [.ref q]))) (rs ++ [r]) := by
  obtain ⟨ys, e2, j⟩ := a.x
  rw [e] at e2
  cases e2
  have lc : c ≠ l := (a.h0.ne a.nl).2
  refine ⟨a.h0, fun b o hb e3 => ?_, a.h.upd a.lp.symm lc, a.nl, ⟨_, upd_same, ?_⟩, fun r' hr' => ?_⟩
  · rw [upd_ne (ne_of_none e3 a.nl)]
    exact a.b b o hb e3
  · rw [List.map_append]
    have k : Kt H (upd H l (.lst (xs ++ [.ref q]))) := Kt.lst e
    exact (im_all_kt k j).snoc (Im.kt k _ _ i)
  · rcases List.mem_append.mp hr' with h | h
    · exact a.ok r' h
    · rw [List.mem_singleton.mp h]
      exact ok
theorem AL.init (h : HandC H p c) (nl : H l = none) : AL p c H n l (upd H l (.lst [])) [] :=
  ⟨h, fun b o hb e => by rw [upd_ne (ne_of_none e nl)]; exact e, h.upd (h.ne nl).1 (h.ne nl).2, nl, ⟨[], upd_same, .nil⟩, fun r hr => by cases hr⟩
end
section
variable {P : Program} {w : World} {K : PySem.W.Frag} {mg : Str → Option Value} {base : Heap}
/-! ### _law_move -/
def spLmo : Sp := fun vs H Q _ => ∃ (p c t : Addr) (m : Int) (xs : List V), vs = [.ref p, .int m, .ref t] ∧ HandC H p c ∧ ModL H t xs ∧ t ≠ p ∧ (0 ≤ m ∧ m ≤ 20) ∧ ∀ a (L : Mv) H', L.Ok → MvR H' a L → HandC H' p c → But p H H' → Q (.ref a) H'
abbrev s_lmo : Stmt := top 48
abbrev N_lmo : List Str := ["_law_hand_here", "_law_most", "_law_moduli", "_law_kind"]
theorem sc_lmo : FnScope N_lmo ["_law_hand_here", "_law_most", "_law_moduli"] (defScope s_lmo) := ⟨rfl, rfl, rfl, by decide +kernel, rfl, by decide +kernel, by decide +kernel⟩
theorem ModL.but {p t : Addr} {H H' : Hp} {xs : List V} (h : ModL H t xs) (tp : t ≠ p) (b : But p H H') : ModL H' t xs := ⟨b _ _ tp h.1, h.2⟩
theorem kp_lmo (F : At K mg "_law_move" s_lmo) (G : Keeps CX0 P w K mg base "_law_draw" 2 ["_law_hand_here", "_law_many"] spDraw) (Gp : Keeps CX0 P w K mg base "_law_pick" 3 ["_law_hand_here", "_law_things"] spPick)
    (Gl_ : Keeps CX0 P w K mg base "_law_letter" 4 ["_law_hand_here", "_law_most", "_law_moduli"] spLet) (Gt : Keeps CX0 P w K mg base "_law_test" 4 ["_law_hand_here", "_law_moduli"] spTes) : Keeps CX0 P w K mg base "_law_move" 5 ["_law_hand_here", "_law_most", "_law_moduli"] spLmo := by
  refine keeps_of F sc_lmo (fun _ _ _ _ _ _ us hl => match us, hl with | [_, _, _], _ => rfl) (fun vs H Q E h => ?_) (fun f cdv A outer s H vs Q E hr h => ?_)
  · obtain ⟨p, c, t, m, xs, rfl, _⟩ := h
    rfl
  · obtain ⟨p, c, t, m, xs, rfl, hh, ht, tp, mb, k⟩ := h
    have h2 : Room 2 (A.deeper (envOfC "_law_move" (defScope s_lmo) s.heap.objs.size f cdv)) := hr.mono (by decide)
    have h3 : Room 3 (A.deeper (envOfC "_law_move" (defScope s_lmo) s.heap.objs.size f cdv)) := hr.mono (by decide)
    refine ⟨_, (pss_cons (ps_set (i := 3) sc_lmo.nd rfl (by walk_at "lv") (pe_k G h2 (by rfl) pass0 (pa_cons (pv 0) (pa_cons pe_int pa_nil))))
        (pss_cons (ps_if (pt_cmpR op_lt (pv 3) pe_int (nomark _)) (pss_one (ps_ret (pe_tup (pa_cons pe_str (pa_cons (pe_k Gl_ hr (by rfl) pass0 (pa_cons (pv 0) (pa_cons (pv 1) (pa_cons (pv 2) pa_nil)))) pa_nil))))) pss_nil)
        (pss_cons (ps_if (pt_cmpR op_lt (pv 3) pe_int (nomark _)) (pss_one (ps_ret (pe_tup (pa_cons (pe_k Gp h3 (by rfl) pass0 (pa_cons (pv 0) (pa_cons (pe_lst (pa_cons pe_str (pa_cons pe_str pa_nil))) pa_nil))) (pa_cons (pe_k Gt hr (by rfl) pass0 (pa_cons (pv 0) (pa_cons (pv 2) pa_nil))) pa_nil))))) pss_nil)
        (pss_one (ps_ret (pe_tup (pa_cons pe_str pa_nil))))))), ?_⟩
    refine ⟨_, rfl, p, c, 8, rfl, hh, ⟨by decide, by decide⟩, fun r H1 r0 r1 h1 b1 => ?_⟩
    refine ⟨_, rfl, _, _, rfl, rfl, _, rfl, ite2 (fun _ => ?_) (fun _ => ?_)⟩
    · refine ⟨_, rfl, _, rfl, _, rfl, p, c, t, m, xs, rfl, h1, ht.but tp b1, tp, mb, fun a L H2 ok ea hh2 b2 => ⟨(by show 2 ≤ sizeLine; decide), fun q hq => ?_⟩⟩
      obtain ⟨q1, q2, q3⟩ := new_tup (xs := [V.str "deed", V.ref a]) hh2 (b1.trans b2) hq
      exact k q (.deed L) _ ok ⟨a, q1, by rw [upd_ne (ne_of_none ea hq)]; exact ea⟩ q2 q3
    refine ⟨_, rfl, _, _, rfl, rfl, _, rfl, ite2 (fun _ => ?_) (fun _ => ?_)⟩
    · refine ⟨_, rfl, (by show 2 ≤ sizeLine; decide), fun l hl => ?_⟩
      have s1 := same_new (o := .lst [V.str "so", V.str "not"]) (Same.refl H1) hl
      refine ⟨p, c, l, _, rfl, h1.same s1, upd_same, (h1.ne hl).1.symm, ⟨by decide, by decide⟩, fun i v H2 hv hh2 b2 => ?_⟩
      have b12 : But p H H2 := (b1.trans (But.of s1)).trans b2
      refine ⟨_, rfl, _, rfl, p, c, t, xs, rfl, hh2, ht.but tp b12, tp, fun a T H3 ok ea hh3 b3 => ⟨(by show 2 ≤ sizeLine; decide), fun q hq => ?_⟩⟩
      obtain ⟨q1, q2, q3⟩ := new_tup (xs := [v, V.ref a]) hh3 (b12.trans b3) hq
      have e4 : upd H3 q (.tup [v, V.ref a]) a = some (.tup T.vs) := by rw [upd_ne (ne_of_none ea hq)]; exact ea
      match i, hv with
      | 0, hv => cases hv; exact k q (.so T) _ ok ⟨a, q1, e4⟩ q2 q3
      | 1, hv => cases hv; exact k q (.not T) _ ok ⟨a, q1, e4⟩ q2 q3
    · refine ⟨(by show 1 ≤ sizeLine; decide), fun q hq => ?_⟩
      obtain ⟨q1, q2, q3⟩ := new_tup (xs := [V.str "stay"]) h1 b1 hq
      exact k q .stay _ trivial q1 q2 q3
/-! ### _law_rings -/
/-- a shape: how many stations, the greatest step, the moduli -/
def ShapeAt (H : Hp) (q : Addr) (n st : Int) (t : Addr) (ms : List V) : Prop := H q = some (.tup [.int n, .int st, .ref t]) ∧ ModL H t ms ∧ (1 ≤ n ∧ n ≤ 8) ∧ 1 ≤ st ∧ st ≤ 6
theorem ShapeAt.but {p c q t : Addr} {n st : Int} {ms : List V} {H H' : Hp} (hh : HandC H p c) (tp : t ≠ p) (b : But p H H') (h : ShapeAt H q n st t ms) : ShapeAt H' q n st t ms := ⟨b _ _ (hh.nt h.1) h.1, h.2.1.but tp b, h.2.2⟩
def spLrg : Sp := fun vs H Q _ => ∃ (p c q t : Addr) (n st cut : Int) (ms : List V), vs = [.ref p, .ref q, .int cut] ∧ HandC H p c ∧ ShapeAt H q n st t ms ∧ t ≠ p ∧ (1 ≤ cut ∧ cut ≤ n) ∧ ∀ l rs H', AL p c H n l H' rs → rs.length ≤ 10 → rs ≠ [] → Q (.ref l) H'
abbrev s_lrg : Stmt := top 50
abbrev N_lrg : List Str := ["_law_hand_here", "_law_shape_here", "_law_cut", "_law_arrows", "_law_side", "_law_other", "_law_station", "_law_step", "_law_low", "_law_end", "_law_there"]
theorem sc_lrg : FnScope N_lrg ["_law_hand_here", "_law_shape_here", "_law_cut"] (defScope s_lrg) := ⟨rfl, rfl, rfl, by decide +kernel, rfl, by decide +kernel, by decide +kernel⟩
theorem mul_small {s z : Int} (h1 : -1 ≤ s) (h2 : s ≤ 1) (h3 : 0 ≤ z) (h4 : z ≤ 6) : -20 ≤ s * z ∧ s * z ≤ 20 := by
  have : s = -1 ∨ s = 0 ∨ s = 1 := by omega
  rcases this with rfl | rfl | rfl <;> omega
theorem kp_lrg (F : At K mg "_law_rings" s_lrg) (N : Nb mg) (G : Keeps CX0 P w K mg base "_law_draw" 2 ["_law_hand_here", "_law_many"] spDraw) (Gp : Keeps CX0 P w K mg base "_law_pick" 3 ["_law_hand_here", "_law_things"] spPick)
    (Gm : Keeps CX0 P w K mg base "_law_move" 5 ["_law_hand_here", "_law_most", "_law_moduli"] spLmo) : Keeps CX0 P w K mg base "_law_rings" 6 ["_law_hand_here", "_law_shape_here", "_law_cut"] spLrg := by
  refine keeps_of F sc_lrg (fun _ _ _ _ _ _ us hl => match us, hl with | [_, _, _], _ => rfl) (fun vs H Q E h => ?_) (fun f cdv A outer s H vs Q E hr h => ?_)
  · obtain ⟨p, c, q, t, n, st, cut, ms, rfl, _⟩ := h
    rfl
  · obtain ⟨p, c, q, t, n, st, cut, ms, rfl, hh, hs, tp, cb, k⟩ := h
    have h2 : Room 2 (A.deeper (envOfC "_law_rings" (defScope s_lrg) s.heap.objs.size f cdv)) := hr.mono (by decide)
    have h3 : Room 3 (A.deeper (envOfC "_law_rings" (defScope s_lrg) s.heap.objs.size f cdv)) := hr.mono (by decide)
    obtain ⟨hq, hml, nb, sb⟩ := hs
    refine ⟨_, (pss_cons (ps_set (i := 3) sc_lrg.nd rfl (by walk_at "lv") (pe_lst pa_nil))
        (pss_cons (ps_set (i := 4) sc_lrg.nd rfl (by walk_at "lv") (pe_k Gp h3 (by rfl) pass0 (pa_cons (pv 0) (pa_cons (pe_lst (pa_cons pe_int (pa_cons pe_int (pa_cons (pe_un un_neg pe_int) pa_nil)))) pa_nil))))
        (pss_cons (ps_set (i := 5) sc_lrg.nd rfl (by walk_at "lv") (pe_k Gp h3 (by rfl) pass0 (pa_cons (pv 0) (pa_cons (pe_lst (pa_cons pe_int (pa_cons (pe_un un_neg pe_int) pa_nil))) pa_nil))))
        (pss_cons (ps_for PassesOwn.never rfl (pi_range1 (by rfl) N.range (pa_cons (pe_ix ix_tup (pv 1) pe_int (fun _ _ => rfl)) pa_nil)) (pg_name (i := 6) sc_lrg.nd rfl (by walk_at "lv")) (pss_cons (ps_set (i := 7) sc_lrg.nd rfl (by walk_at "lv") (pe_k Gp h3 (by rfl) pass0 (pa_cons (pv 0) (pa_cons (pe_lst (pa_cons (pe_ix ix_tup (pv 1) pe_int (fun _ _ => rfl)) (pa_cons (pe_k G h2 (by rfl) pass0 (pa_cons (pv 0) (pa_cons (pe_op op_add (pe_ix ix_tup (pv 1) pe_int (fun _ _ => rfl)) pe_int) pa_nil))) pa_nil))) pa_nil))))
        (C8.pss_cut (ps_set (i := 8) sc_lrg.nd rfl (by walk_at "lv") (pe_ifExp (pt_cmpR op_lt (pv 6) (pv 2) (nomark _)) pe_int (pv 2)))
        (C8.pss_cut (ps_set (i := 9) sc_lrg.nd rfl (by walk_at "lv") (pe_ifExp (pt_cmpR op_lt (pv 6) (pv 2) (nomark _)) (pv 2) (pe_ix ix_tup (pv 1) pe_int (fun _ _ => rfl))))
        (C8.pss_cut (ps_set (i := 10) sc_lrg.nd rfl (by walk_at "lv") (pe_ifExp (pt_cmpR op_lt (pe_op op_add (pv 6) pe_int) (pv 9) (nomark _)) (pe_op op_add (pv 6) pe_int) (pv 8)))
        (pss_one (ps_expr (pe_bm PySem.F.plainAttrs_list PySem.F.slot_list_append PySem.F.type_list_append mt_append (pv 3) (pa_cons (pe_tup (pa_cons (pv 6) (pa_cons (pe_tup (pa_cons pe_str (pa_cons (pe_tup (pa_cons pe_str (pa_cons (pe_ifExp (pt_cmpR op_lt (pv 6) (pv 2) (nomark _)) (pe_op op_mul (pv 4) (pv 7)) (pe_op op_mul (pv 5) (pv 7))) pa_nil))) pa_nil))) (pa_cons (pv 10) pa_nil)))) pa_nil)))))))))
        (pss_cons (ps_if (pt_cmpR op_lt (pv 2) (pe_ix ix_tup (pv 1) pe_int (fun _ _ => rfl)) (nomark _)) (pss_cons (ps_expr (pe_bm PySem.F.plainAttrs_list PySem.F.slot_list_append PySem.F.type_list_append mt_append (pv 3) (pa_cons (pe_tup (pa_cons (pe_k G h2 (by rfl) pass0 (pa_cons (pv 0) (pa_cons (pv 2) pa_nil))) (pa_cons (pe_k Gm hr (by rfl) pass0 (pa_cons (pv 0) (pa_cons pe_int (pa_cons (pe_ix ix_tup (pv 1) pe_int (fun _ _ => rfl)) pa_nil)))) (pa_cons (pe_op op_add (pv 2) (pe_k G h2 (by rfl) pass0 (pa_cons (pv 0) (pa_cons (pe_op op_sub (pe_ix ix_tup (pv 1) pe_int (fun _ _ => rfl)) (pv 2)) pa_nil)))) pa_nil)))) pa_nil)))
        (pss_one (ps_expr (pe_bm PySem.F.plainAttrs_list PySem.F.slot_list_append PySem.F.type_list_append mt_append (pv 3) (pa_cons (pe_tup (pa_cons (pe_k G h2 (by rfl) pass0 (pa_cons (pv 0) (pa_cons (pv 2) pa_nil))) (pa_cons (pe_tup (pa_cons pe_str pa_nil)) (pa_cons (pe_op op_add (pv 2) (pe_k G h2 (by rfl) pass0 (pa_cons (pv 0) (pa_cons (pe_op op_sub (pe_ix ix_tup (pv 1) pe_int (fun _ _ => rfl)) (pv 2)) pa_nil)))) pa_nil)))) pa_nil))))) pss_nil)
        (pss_one (ps_ret (pv 3)))))))), ?_⟩
    refine ⟨(by show 0 ≤ sizeLine; decide), fun l hl => ?_⟩
    have a0 : AL p c H n l (upd H l (.lst [])) [] := AL.init hh hl
    have one3 : ∀ {i : Nat} {v : V}, ([.int 1, .int 1, .int (-1)] : List V)[i]? = some v → ∃ z : Int, v = .int z ∧ -1 ≤ z ∧ z ≤ 1 := fun {i v} e => by
      match i, e with
      | 0, e => cases e; exact ⟨_, rfl, by decide, by decide⟩
      | 1, e => cases e; exact ⟨_, rfl, by decide, by decide⟩
      | 2, e => cases e; exact ⟨_, rfl, by decide, by decide⟩
    have one2 : ∀ {i : Nat} {v : V}, ([.int 1, .int (-1)] : List V)[i]? = some v → ∃ z : Int, v = .int z ∧ -1 ≤ z ∧ z ≤ 1 := fun {i v} e => by
      match i, e with
      | 0, e => cases e; exact ⟨_, rfl, by decide, by decide⟩
      | 1, e => cases e; exact ⟨_, rfl, by decide, by decide⟩
    refine ⟨_, rfl, _, rfl, (by show 3 ≤ sizeLine; decide), fun l1 hl1 => ?_⟩
    have a1 := a0.same (same_new (o := .lst [V.int 1, V.int 1, V.int (-1)]) (Same.refl _) hl1)
    refine ⟨p, c, l1, _, rfl, a1.h, upd_same, (a0.h.ne hl1).1.symm, ⟨by decide, by decide⟩, fun i v H2 hv hh2 b2 => ?_⟩
    obtain ⟨s1, rfl, s1b⟩ := one3 hv
    have a2 := a1.but b2 hh2
    refine ⟨_, rfl, _, rfl, (by show 2 ≤ sizeLine; decide), fun l3 hl3 => ?_⟩
    have a3 := a2.same (same_new (o := .lst [V.int 1, V.int (-1)]) (Same.refl _) hl3)
    refine ⟨p, c, l3, _, rfl, a3.h, upd_same, (a2.h.ne hl3).1.symm, ⟨by decide, by decide⟩, fun i v H4 hv hh4 b4 => ?_⟩
    obtain ⟨s2, rfl, s2b⟩ := one2 hv
    have a4 := a3.but b4 hh4
    have qp : q ≠ p := hh.nt hq
    refine ⟨_, rfl, q, _, _, _, rfl, rfl, SqT.of (a4.b _ _ qp hq), rfl, _, rfl, by omega, by omega, for_it walk_range (fun i σ H5 => ∃ (x6 x7 x8 x9 x10 : Option V) (rs : List Ar), σ = [some (.ref p), some (.ref q), some (.int cut), some (.ref l), some (.int s1), some (.int s2), x6, x7, x8, x9, x10] ∧ AL p c H n l H5 rs ∧ rs.length = i) ⟨_, _, _, _, _, [], rfl, a4, rfl⟩ (fun i σ H5 _ _ => trivial) ?_ ?_⟩
    · rintro i v σ H5 H6 hi ⟨x6, x7, x8, x9, x10, rs, rfl, a5, lr⟩ ⟨rfl, rfl⟩
      have hi : (i : Int) < n := by omega
      refine ⟨_, rfl, _, rfl, q, _, _, _, rfl, rfl, SqT.of (a5.b _ _ qp hq), rfl, _, rfl, _, rfl, q, _, _, _, rfl, rfl, SqT.of (a5.b _ _ qp hq), rfl, _, _, rfl, rfl, p, c, _, rfl, a5.h, ⟨by omega, log_int (by omega) (by omega)⟩, fun z H7 z0 z1 hh7 b7 => ?_⟩
      have a7 := a5.but b7 hh7
      refine ⟨(by show 2 ≤ sizeLine; decide), fun l5 hl5 => ?_⟩
      have a8 := a7.same (same_new (o := .lst [V.int st, V.int z]) (Same.refl _) hl5)
      refine ⟨p, c, l5, _, rfl, a8.h, upd_same, (a7.h.ne hl5).1.symm, ⟨Nat.le_of_ble_eq_true rfl, Nat.le_of_ble_eq_true rfl⟩, fun j v H9 hv hh9 b9 => ?_⟩
      have a9 := a8.but b9 hh9
      obtain ⟨sz, rfl, sz0, sz6⟩ : ∃ sz : Int, v = .int sz ∧ 0 ≤ sz ∧ sz ≤ 6 := by
        match j, hv with
        | 0, hv => cases hv; exact ⟨_, rfl, by omega, by omega⟩
        | 1, hv => cases hv; exact ⟨_, rfl, by omega, by omega⟩
      refine ⟨fun σ' H' => H' = H9 ∧ ∃ low : Int, σ' = [some (.ref p), some (.ref q), some (.int cut), some (.ref l), some (.int s1), some (.int s2), some (.int (0 + (i : Int))), some (.int sz), some (.int low), x9, x10] ∧ 0 ≤ low ∧ low ≤ i, ?_, ?_⟩
      · refine ⟨_, rfl, _, rfl, _, _, rfl, rfl, _, rfl, ite2 (fun z => ⟨rfl, 0, rfl, by omega, by omega⟩) (fun z => ⟨_, rfl, rfl, cut, rfl, by omega, ?_⟩)⟩
        have : ¬ (0 + (i : Int) < cut) := fun y => z (decide_eq_true y)
        omega
      rintro _ H9 ⟨rfl, low, rfl, lo1, lo2⟩
      refine ⟨fun σ' H' => H' = H9 ∧ ∃ en : Int, σ' = [some (.ref p), some (.ref q), some (.int cut), some (.ref l), some (.int s1), some (.int s2), some (.int (0 + (i : Int))), some (.int sz), some (.int low), some (.int en), x10] ∧ en ≤ n, ?_, ?_⟩
      · exact ⟨_, rfl, _, rfl, _, _, rfl, rfl, _, rfl, ite2 (fun z => ⟨_, rfl, rfl, cut, rfl, by omega⟩) (fun z => ⟨_, rfl, q, _, _, _, rfl, rfl, SqT.of (a9.b _ _ qp hq), rfl, rfl, n, rfl, Int.le_refl _⟩)⟩
      rintro _ H9 ⟨rfl, en, rfl, en1⟩
      refine ⟨fun σ' H' => H' = H9 ∧ ∃ th : Int, σ' = [some (.ref p), some (.ref q), some (.int cut), some (.ref l), some (.int s1), some (.int s2), some (.int (0 + (i : Int))), some (.int sz), some (.int low), some (.int en), some (.int th)] ∧ 0 ≤ th ∧ th < n, ?_, ?_⟩
      · refine ⟨_, rfl, _, _, rfl, rfl, _, rfl, _, _, rfl, rfl, _, rfl, ite2 (fun z => ⟨_, rfl, _, _, rfl, rfl, rfl, _, rfl, by omega, ?_⟩) (fun z => ⟨_, rfl, rfl, low, rfl, by omega, by omega⟩)⟩
        have := of_decide_eq_true z
        omega
      rintro _ H9 ⟨rfl, th, rfl, th1, th2⟩
      obtain ⟨xs, ex, ix⟩ := a9.x
      have lx := a9.len ex
      have s10 : ∀ (v : Int) t1 t2 t3, H9 t1 = none → upd H9 t1 (.tup [V.str "add", V.int v]) t2 = none → upd (upd H9 t1 (.tup [V.str "add", V.int v])) t2 (.tup [V.str "deed", V.ref t1]) t3 = none → Same H9 (upd (upd (upd H9 t1 (.tup [V.str "add", V.int v])) t2 (.tup [V.str "deed", V.ref t1])) t3 (.tup [V.int (0 + (i : Int)), V.ref t2, V.int th])) := fun v t1 t2 t3 ht1 ht2 ht3 => same_new (same_new (same_new (Same.refl H9) ht1) ht2) ht3
      have a10 : ∀ (v : Int) t1 t2 t3, -20 ≤ v ∧ v ≤ 20 → H9 t1 = none → upd H9 t1 (.tup [V.str "add", V.int v]) t2 = none → upd (upd H9 t1 (.tup [V.str "add", V.int v])) t2 (.tup [V.str "deed", V.ref t1]) t3 = none →
          AL p c H n l (upd (upd (upd (upd H9 t1 (.tup [V.str "add", V.int v])) t2 (.tup [V.str "deed", V.ref t1])) t3 (.tup [V.int (0 + (i : Int)), V.ref t2, V.int th])) l (.lst (xs ++ [.ref t3]))) (rs ++ [⟨0 + (i : Int), .deed (.add v), th⟩]) := fun v t1 t2 t3 vb ht1 ht2 ht3 => by
        have sx := s10 v t1 t2 t3 ht1 ht2 ht3
        refine (a9.same sx).push (r := ⟨0 + (i : Int), .deed (.add v), th⟩) (sx _ _ ex) (im_ar upd_same ⟨t1, ?_, ?_⟩) ⟨vb, ⟨by show 0 ≤ 0 + (i : Int); omega, by show 0 + (i : Int) < n; omega⟩, th1, th2⟩
        · rw [upd_ne (ne_of_none upd_same ht3)]; exact upd_same
        · rw [upd_ne (ne_of_none (by rw [upd_ne (ne_of_none upd_same ht2)]; exact upd_same) ht3), upd_ne (ne_of_none upd_same ht2)]; exact upd_same
      have ln : ∀ v : Int, (rs ++ [(⟨0 + (i : Int), .deed (.add v), th⟩ : Ar)]).length = i + 1 := fun v => by rw [List.length_append, lr]; rfl
      refine ⟨_, rfl, .inl ⟨rfl, _, SqL.of ex⟩, _, rfl, _, rfl, _, rfl, _, _, rfl, rfl, _, rfl, ite2 (fun _ => ⟨_, rfl, _, rfl, _, _, rfl, rfl, .inl ⟨by omega, by omega⟩, ?_⟩) (fun _ => ⟨_, rfl, _, rfl, _, _, rfl, rfl, .inl ⟨by omega, by omega⟩, ?_⟩)⟩
      · refine ⟨(by show 2 ≤ sizeLine; decide), fun t1 ht1 => ⟨(by show 2 ≤ sizeLine; decide), fun t2 ht2 => ⟨_, rfl, (by show 3 ≤ sizeLine; decide), fun t3 ht3 => ?_⟩⟩⟩
        exact ⟨l, xs, _, rfl, rfl, s10 (s1 * sz) t1 t2 t3 ht1 ht2 ht3 _ _ ex, smallB (by omega), _, _, _, _, _, _, rfl, a10 (s1 * sz) t1 t2 t3 (mul_small s1b.1 s1b.2 sz0 sz6) ht1 ht2 ht3, ln _⟩
      · refine ⟨(by show 2 ≤ sizeLine; decide), fun t1 ht1 => ⟨(by show 2 ≤ sizeLine; decide), fun t2 ht2 => ⟨_, rfl, (by show 3 ≤ sizeLine; decide), fun t3 ht3 => ?_⟩⟩⟩
        exact ⟨l, xs, _, rfl, rfl, s10 (s2 * sz) t1 t2 t3 ht1 ht2 ht3 _ _ ex, smallB (by omega), _, _, _, _, _, _, rfl, a10 (s2 * sz) t1 t2 t3 (mul_small s2b.1 s2b.2 sz0 sz6) ht1 ht2 ht3, ln _⟩
    · rintro σ H5 ⟨x6, x7, x8, x9, x10, rs, rfl, a5, lr⟩
      have rne : rs ≠ [] := fun z => by rw [z] at lr; simp at lr; omega
      refine ⟨_, rfl, _, rfl, q, _, _, _, rfl, rfl, SqT.of (a5.b _ _ qp hq), rfl, _, _, rfl, rfl, _, rfl, ite2 (fun z => ?_) (fun z => ⟨_, rfl, k l rs H5 a5 (by omega) rne⟩)⟩
      have cn := of_decide_eq_true z
      obtain ⟨xs, ex, ix⟩ := a5.x
      refine ⟨_, rfl, .inl ⟨rfl, _, SqL.of ex⟩, _, rfl, _, rfl, p, c, cut, rfl, a5.h, ⟨by omega, log_int (by omega) (by omega)⟩, fun d1 H6 d10 d11 hh6 b6 => ?_⟩
      have a6 := a5.but b6 hh6
      refine ⟨_, rfl, _, rfl, q, _, _, _, rfl, rfl, SqT.of (a6.b _ _ qp hq), rfl, p, c, t, 1, ms, rfl, hh6, hml.but tp a6.b, tp, ⟨by decide, by decide⟩, fun m mv H7 mok mr hh7 b7 => ?_⟩
      have a7 := a6.but b7 hh7
      refine ⟨_, rfl, _, rfl, _, rfl, q, _, _, _, rfl, rfl, SqT.of (a7.b _ _ qp hq), rfl, _, rfl, _, _, rfl, rfl, p, c, _, rfl, hh7, ⟨by omega, log_int (by omega) (by omega)⟩, fun d2 H8 d20 d21 hh8 b8 => ⟨_, _, rfl, rfl, (by show 3 ≤ sizeLine; decide), fun t3 ht3 => ?_⟩⟩
      have a8 := a7.but b8 hh8
      have mr8 := Im.mv (Im.kt (Kt.hand hh7 b8) _ _ (im_mv mr))
      obtain ⟨_, em, mr8⟩ := mr8
      cases em
      have ex8 : H8 l = some (.lst xs) := b8 _ _ a5.lp (b7 _ _ a5.lp (b6 _ _ a5.lp ex))
      have s9 := same_new (o := .tup [V.int d1, V.ref m, V.int (cut + d2)]) (Same.refl H8) ht3
      have a9 := a8.same s9
      have lx := a8.len ex8
      refine ⟨l, xs, _, rfl, rfl, s9 _ _ ex8, smallB (by omega), ?_⟩
      have i9 : Im (upd H8 t3 (.tup [V.int d1, V.ref m, V.int (cut + d2)])) (.ref t3) (Ar.d ⟨d1, mv, cut + d2⟩) := by
        have q1 := Im.kt (Kt.of s9) _ _ (im_mv mr8)
        obtain ⟨_, em, mr9⟩ := Im.mv q1
        cases em
        exact im_ar (r := ⟨d1, mv, cut + d2⟩) upd_same mr9
      have a10 := a9.push (s9 _ _ ex8) i9 ⟨mok, ⟨d10, by show d1 < n; omega⟩, by show 0 ≤ cut + d2; omega, by show cut + d2 < n; omega⟩
      obtain ⟨xs2, ex2, ix2⟩ := a10.x
      refine ⟨_, rfl, .inl ⟨rfl, _, SqL.of ex2⟩, _, rfl, _, rfl, p, c, cut, rfl, a10.h, ⟨by omega, log_int (by omega) (by omega)⟩, fun d3 H11 d30 d31 hh11 b11 => ⟨(by show 1 ≤ sizeLine; decide), fun t4 ht4 => ?_⟩⟩
      have a11 := a10.but b11 hh11
      have s12 := same_new (o := .tup [V.str "stay"]) (Same.refl H11) ht4
      have a12 := a11.same s12
      refine ⟨_, rfl, _, rfl, _, rfl, q, _, _, _, rfl, rfl, SqT.of (a12.b _ _ qp hq), rfl, _, rfl, _, _, rfl, rfl, p, c, _, rfl, a12.h, ⟨by omega, log_int (by omega) (by omega)⟩, fun d4 H13 d40 d41 hh13 b13 => ⟨_, _, rfl, rfl, (by show 3 ≤ sizeLine; decide), fun t5 ht5 => ?_⟩⟩
      have a13 := a12.but b13 hh13
      have e4 : H13 t4 = some (.tup [.str "stay"]) := b13 _ _ (a11.h.ne ht4).1.symm upd_same
      have ex13 : H13 l = some (.lst xs2) := b13 _ _ a5.lp (s12 _ _ (b11 _ _ a5.lp ex2))
      have s14 := same_new (o := .tup [V.int d3, V.ref t4, V.int (cut + d4)]) (Same.refl H13) ht5
      have a14 := a13.same s14
      have lx2 := a13.len ex13
      rw [List.length_append, List.length_singleton] at lx2
      refine ⟨l, xs2, _, rfl, rfl, s14 _ _ ex13, smallB (by omega), ?_⟩
      have i15 : Im (upd H13 t5 (.tup [V.int d3, V.ref t4, V.int (cut + d4)])) (.ref t5) (Ar.d ⟨d3, .stay, cut + d4⟩) := im_ar (r := ⟨d3, .stay, cut + d4⟩) upd_same (s14 _ _ e4)
      have a16 := a14.push (s14 _ _ ex13) i15 ⟨trivial, ⟨d30, by show d3 < n; omega⟩, by show 0 ≤ cut + d4; omega, by show cut + d4 < n; omega⟩
      exact ⟨_, rfl, k l _ _ a16 (by rw [List.length_append, List.length_append, List.length_singleton, List.length_singleton]; omega) (fun z => by simp at z)⟩
end
end My
set_option Elab.async false
set_option linter.all false
set_option maxRecDepth 100000
set_option maxHeartbeats 8000000
namespace My
open PySem PySem.Spec PyProof.Rows L2
local macro_rules | `(tactic| walk_at "lv") => `(tactic| first | exact Or.inl rfl | exact Or.inr rfl)
/-! ### _law_shape -/
def ModV (ms : List V) : Prop := (0 < ms.length ∧ ms.length ≤ 100) ∧ ∀ (i : Nat) (v : V), ms[i]? = some v → ∃ m : Nat, v = .int m ∧ 1 ≤ m ∧ m ≤ 6
theorem mod_list {ms : List V} {ns : List Nat} (e : ms = ns.map fun n => V.int (n : Nat)) (h : (decide (0 < ns.length ∧ ns.length ≤ 100) && ns.all fun n => decide (1 ≤ n ∧ n ≤ 6)) = true) : ModV ms := by
  subst e
  obtain ⟨h1, h2⟩ := and_ok h
  have h1 := of_decide_eq_true h1
  refine ⟨by rw [List.length_map]; exact h1, fun i v hv => ?_⟩
  rw [List.getElem?_map] at hv
  obtain ⟨m, em, rfl⟩ := Option.map_eq_some_iff.mp hv
  have := of_decide_eq_true (List.all_eq_true.mp h2 m (List.mem_of_getElem? em))
  exact ⟨m, rfl, this⟩
structure Sh (p c : Addr) (H0 H : Hp) (xs : List V) : Prop where
  s : Same H0 H
  h : HandC H p c
  x : ∀ v ∈ xs, ∃ q n st t ms, v = .ref q ∧ ShapeAt H q n st t ms ∧ t ≠ p
theorem Sh.push {p c : Addr} {H0 H : Hp} {xs ms : List V} {l q : Addr} {n st : Int} (a : Sh p c H0 H xs) (hl : H l = none) (hq : upd H l (.lst ms) q = none) (hm : ModV ms) (hn : 1 ≤ n ∧ n ≤ 8) (hs : 1 ≤ st ∧ st ≤ 6) : Sh p c H0 (upd (upd H l (.lst ms)) q (.tup [.int n, .int st, .ref l])) (xs ++ [.ref q]) := by
  have s1 := same_new (o := .lst ms) (Same.refl H) hl
  have s2 := same_new (o := .tup [V.int n, V.int st, V.ref l]) s1 hq
  refine ⟨a.s.trans s2, a.h.same s2, fun v hv => ?_⟩
  rcases List.mem_append.mp hv with hv | hv
  · obtain ⟨q', n', st', t, ms', e, ⟨h1, h2, h3⟩, tp⟩ := a.x v hv
    exact ⟨q', n', st', t, ms', e, ⟨s2 _ _ h1, ⟨s2 _ _ h2.1, h2.2⟩, h3⟩, tp⟩
  · rw [List.mem_singleton.mp hv]
    exact ⟨q, n, st, l, ms, rfl, ⟨upd_same, ⟨by rw [upd_ne (ne_of_none upd_same hq)]; exact upd_same, hm⟩, hn, hs⟩, (a.h.ne hl).1.symm⟩
section
variable {P : Program} {w : World} {K : PySem.W.Frag} {mg : Str → Option Value} {base : Heap}
def spLsh : Sp := fun vs H Q _ => ∃ (p c : Addr) (b : Bool), vs = [.ref p, .bl b] ∧ HandC H p c ∧ ∀ q n st t ms H', ShapeAt H' q n st t ms → t ≠ p → HandC H' p c → But p H H' → Q (.ref q) H'
abbrev s_lsh : Stmt := top 49
abbrev N_lsh : List Str := ["_law_hand_here", "_law_wide"]
theorem sc_lsh : FnScope N_lsh ["_law_hand_here", "_law_wide"] (defScope s_lsh) := ⟨rfl, rfl, rfl, by decide +kernel, rfl, by decide +kernel, by decide +kernel⟩
theorem kp_lsh (F : At K mg "_law_shape" s_lsh) (Gp : Keeps CX0 P w K mg base "_law_pick" 3 ["_law_hand_here", "_law_things"] spPick) : Keeps CX0 P w K mg base "_law_shape" 4 ["_law_hand_here", "_law_wide"] spLsh := by
  refine keeps_of F sc_lsh (fun _ _ _ _ _ _ us hl => match us, hl with | [_, _], _ => rfl) (fun vs H Q E h => ?_) (fun f cdv A outer s H vs Q E hr h => ?_)
  · obtain ⟨p, c, b, rfl, _⟩ := h
    rfl
  · obtain ⟨p, c, b, rfl, hh, k⟩ := h
    refine ⟨_, (pss_cons (ps_if (pt_val (pv 1)) (pss_one (ps_ret (pe_k Gp hr (by rfl) pass0 (pa_cons (pv 0) (pa_cons (pe_lst (pa_cons (pe_tup (pa_cons pe_int (pa_cons pe_int (pa_cons (pe_lst (pa_cons pe_int (pa_cons pe_int (pa_cons pe_int (pa_cons pe_int pa_nil))))) pa_nil)))) (pa_cons (pe_tup (pa_cons pe_int (pa_cons pe_int (pa_cons (pe_lst (pa_cons pe_int (pa_cons pe_int (pa_cons pe_int pa_nil)))) pa_nil)))) (pa_cons (pe_tup (pa_cons pe_int (pa_cons pe_int (pa_cons (pe_lst (pa_cons pe_int (pa_cons pe_int pa_nil))) pa_nil)))) (pa_cons (pe_tup (pa_cons pe_int (pa_cons pe_int (pa_cons (pe_lst (pa_cons pe_int (pa_cons pe_int pa_nil))) pa_nil)))) (pa_cons (pe_tup (pa_cons pe_int (pa_cons pe_int (pa_cons (pe_lst (pa_cons pe_int (pa_cons pe_int pa_nil))) pa_nil)))) (pa_cons (pe_tup (pa_cons pe_int (pa_cons pe_int (pa_cons (pe_lst (pa_cons pe_int pa_nil)) pa_nil)))) (pa_cons (pe_tup (pa_cons pe_int (pa_cons pe_int (pa_cons (pe_lst (pa_cons pe_int pa_nil)) pa_nil)))) (pa_cons (pe_tup (pa_cons pe_int (pa_cons pe_int (pa_cons (pe_lst (pa_cons pe_int pa_nil)) pa_nil)))) pa_nil))))))))) pa_nil))))) pss_nil)
        (pss_one (ps_ret (pe_k Gp hr (by rfl) pass0 (pa_cons (pv 0) (pa_cons (pe_lst (pa_cons (pe_tup (pa_cons pe_int (pa_cons pe_int (pa_cons (pe_lst (pa_cons pe_int (pa_cons pe_int (pa_cons pe_int pa_nil)))) pa_nil)))) (pa_cons (pe_tup (pa_cons pe_int (pa_cons pe_int (pa_cons (pe_lst (pa_cons pe_int (pa_cons pe_int pa_nil))) pa_nil)))) (pa_cons (pe_tup (pa_cons pe_int (pa_cons pe_int (pa_cons (pe_lst (pa_cons pe_int (pa_cons pe_int pa_nil))) pa_nil)))) (pa_cons (pe_tup (pa_cons pe_int (pa_cons pe_int (pa_cons (pe_lst (pa_cons pe_int pa_nil)) pa_nil)))) (pa_cons (pe_tup (pa_cons pe_int (pa_cons pe_int (pa_cons (pe_lst (pa_cons pe_int pa_nil)) pa_nil)))) (pa_cons (pe_tup (pa_cons pe_int (pa_cons pe_int (pa_cons (pe_lst (pa_cons pe_int pa_nil)) pa_nil)))) (pa_cons (pe_tup (pa_cons pe_int (pa_cons pe_int (pa_cons (pe_lst (pa_cons pe_int pa_nil)) pa_nil)))) (pa_cons (pe_tup (pa_cons pe_int (pa_cons pe_int (pa_cons (pe_lst (pa_cons pe_int pa_nil)) pa_nil)))) pa_nil))))))))) pa_nil)))))), ?_⟩
    have a0 : Sh p c H H [] := ⟨Same.refl H, hh, fun v hv => by cases hv⟩
    refine ⟨_, rfl, ?_⟩
    have fin : ∀ {H1 : Hp} {xs : List V} {l : Addr}, Sh p c H H1 xs → H1 l = none → xs.length = 8 → ∃ (p' c' t : Addr) (ys : List V), ([V.ref p, V.ref l] : List V) = [.ref p', .ref t] ∧ HandC (upd H1 l (.lst xs)) p' c' ∧ upd H1 l (.lst xs) t = some (.lst ys) ∧ t ≠ p' ∧ (0 < ys.length ∧ ys.length ≤ 100) ∧ ∀ (i : Nat) (v : V) H', ys[i]? = some v → HandC H' p' c' → But p' (upd H1 l (.lst xs)) H' → Q v H' := fun {H1 xs l} a hl ln => by
      have s1 := same_new (o := .lst xs) (Same.refl H1) hl
      refine ⟨p, c, l, xs, rfl, a.h.same s1, upd_same, (a.h.ne hl).1.symm, by omega, fun i v H' hv hh' b' => ?_⟩
      obtain ⟨q, n, st, t, ms, rfl, sa, tp⟩ := a.x v (List.mem_of_getElem? hv)
      have b1 : But p H1 H' := (But.of s1).trans b'
      exact k q n st t ms H' (sa.but a.h tp b1) tp hh' ((But.of a.s).trans b1)
    cases b with
    | true =>
      refine ⟨_, rfl, iteT ⟨_, rfl, ?_⟩⟩
      refine ⟨(by show 4 ≤ sizeLine; decide), fun l1 hl1 => ⟨(by show 3 ≤ sizeLine; decide), fun q1 hq1 => ?_⟩⟩
      have a1 : Sh p c H _ [.ref q1] := Sh.push (n := 1) (st := 6) a0 hl1 hq1 (mod_list (ns := [1, 2, 3, 6]) rfl (by decide)) (by decide) (by decide)
      refine ⟨(by show 3 ≤ sizeLine; decide), fun l2 hl2 => ⟨(by show 3 ≤ sizeLine; decide), fun q2 hq2 => ?_⟩⟩
      have a2 : Sh p c H _ [.ref q1, .ref q2] := Sh.push (n := 2) (st := 4) a1 hl2 hq2 (mod_list (ns := [1, 2, 4]) rfl (by decide)) (by decide) (by decide)
      refine ⟨(by show 2 ≤ sizeLine; decide), fun l3 hl3 => ⟨(by show 3 ≤ sizeLine; decide), fun q3 hq3 => ?_⟩⟩
      have a3 : Sh p c H _ [.ref q1, .ref q2, .ref q3] := Sh.push (n := 2) (st := 3) a2 hl3 hq3 (mod_list (ns := [1, 3]) rfl (by decide)) (by decide) (by decide)
      refine ⟨(by show 2 ≤ sizeLine; decide), fun l4 hl4 => ⟨(by show 3 ≤ sizeLine; decide), fun q4 hq4 => ?_⟩⟩
      have a4 : Sh p c H _ [.ref q1, .ref q2, .ref q3, .ref q4] := Sh.push (n := 3) (st := 2) a3 hl4 hq4 (mod_list (ns := [1, 2]) rfl (by decide)) (by decide) (by decide)
      refine ⟨(by show 2 ≤ sizeLine; decide), fun l5 hl5 => ⟨(by show 3 ≤ sizeLine; decide), fun q5 hq5 => ?_⟩⟩
      have a5 : Sh p c H _ [.ref q1, .ref q2, .ref q3, .ref q4, .ref q5] := Sh.push (n := 4) (st := 2) a4 hl5 hq5 (mod_list (ns := [1, 2]) rfl (by decide)) (by decide) (by decide)
      refine ⟨(by show 1 ≤ sizeLine; decide), fun l6 hl6 => ⟨(by show 3 ≤ sizeLine; decide), fun q6 hq6 => ?_⟩⟩
      have a6 : Sh p c H _ [.ref q1, .ref q2, .ref q3, .ref q4, .ref q5, .ref q6] := Sh.push (n := 6) (st := 1) a5 hl6 hq6 (mod_list (ns := [1]) rfl (by decide)) (by decide) (by decide)
      refine ⟨(by show 1 ≤ sizeLine; decide), fun l7 hl7 => ⟨(by show 3 ≤ sizeLine; decide), fun q7 hq7 => ?_⟩⟩
      have a7 : Sh p c H _ [.ref q1, .ref q2, .ref q3, .ref q4, .ref q5, .ref q6, .ref q7] := Sh.push (n := 7) (st := 1) a6 hl7 hq7 (mod_list (ns := [1]) rfl (by decide)) (by decide) (by decide)
      refine ⟨(by show 1 ≤ sizeLine; decide), fun l8 hl8 => ⟨(by show 3 ≤ sizeLine; decide), fun q8 hq8 => ?_⟩⟩
      have a8 : Sh p c H _ [.ref q1, .ref q2, .ref q3, .ref q4, .ref q5, .ref q6, .ref q7, .ref q8] := Sh.push (n := 8) (st := 1) a7 hl8 hq8 (mod_list (ns := [1]) rfl (by decide)) (by decide) (by decide)
      refine ⟨(by show 8 ≤ sizeLine; decide), fun L hL => ?_⟩
      exact fin a8 hL rfl
    | false =>
      refine ⟨_, rfl, iteF ⟨_, rfl, ?_⟩⟩
      refine ⟨(by show 3 ≤ sizeLine; decide), fun l1 hl1 => ⟨(by show 3 ≤ sizeLine; decide), fun q1 hq1 => ?_⟩⟩
      have a1 : Sh p c H _ [.ref q1] := Sh.push (n := 1) (st := 4) a0 hl1 hq1 (mod_list (ns := [1, 2, 4]) rfl (by decide)) (by decide) (by decide)
      refine ⟨(by show 2 ≤ sizeLine; decide), fun l2 hl2 => ⟨(by show 3 ≤ sizeLine; decide), fun q2 hq2 => ?_⟩⟩
      have a2 : Sh p c H _ [.ref q1, .ref q2] := Sh.push (n := 1) (st := 3) a1 hl2 hq2 (mod_list (ns := [1, 3]) rfl (by decide)) (by decide) (by decide)
      refine ⟨(by show 2 ≤ sizeLine; decide), fun l3 hl3 => ⟨(by show 3 ≤ sizeLine; decide), fun q3 hq3 => ?_⟩⟩
      have a3 : Sh p c H _ [.ref q1, .ref q2, .ref q3] := Sh.push (n := 2) (st := 2) a2 hl3 hq3 (mod_list (ns := [1, 2]) rfl (by decide)) (by decide) (by decide)
      refine ⟨(by show 1 ≤ sizeLine; decide), fun l4 hl4 => ⟨(by show 3 ≤ sizeLine; decide), fun q4 hq4 => ?_⟩⟩
      have a4 : Sh p c H _ [.ref q1, .ref q2, .ref q3, .ref q4] := Sh.push (n := 2) (st := 2) a3 hl4 hq4 (mod_list (ns := [2]) rfl (by decide)) (by decide) (by decide)
      refine ⟨(by show 1 ≤ sizeLine; decide), fun l5 hl5 => ⟨(by show 3 ≤ sizeLine; decide), fun q5 hq5 => ?_⟩⟩
      have a5 : Sh p c H _ [.ref q1, .ref q2, .ref q3, .ref q4, .ref q5] := Sh.push (n := 2) (st := 1) a4 hl5 hq5 (mod_list (ns := [1]) rfl (by decide)) (by decide) (by decide)
      refine ⟨(by show 1 ≤ sizeLine; decide), fun l6 hl6 => ⟨(by show 3 ≤ sizeLine; decide), fun q6 hq6 => ?_⟩⟩
      have a6 : Sh p c H _ [.ref q1, .ref q2, .ref q3, .ref q4, .ref q5, .ref q6] := Sh.push (n := 3) (st := 1) a5 hl6 hq6 (mod_list (ns := [1]) rfl (by decide)) (by decide) (by decide)
      refine ⟨(by show 1 ≤ sizeLine; decide), fun l7 hl7 => ⟨(by show 3 ≤ sizeLine; decide), fun q7 hq7 => ?_⟩⟩
      have a7 : Sh p c H _ [.ref q1, .ref q2, .ref q3, .ref q4, .ref q5, .ref q6, .ref q7] := Sh.push (n := 4) (st := 1) a6 hl7 hq7 (mod_list (ns := [1]) rfl (by decide)) (by decide) (by decide)
      refine ⟨(by show 1 ≤ sizeLine; decide), fun l8 hl8 => ⟨(by show 3 ≤ sizeLine; decide), fun q8 hq8 => ?_⟩⟩
      have a8 : Sh p c H _ [.ref q1, .ref q2, .ref q3, .ref q4, .ref q5, .ref q6, .ref q7, .ref q8] := Sh.push (n := 5) (st := 1) a7 hl8 hq8 (mod_list (ns := [1]) rfl (by decide)) (by decide) (by decide)
      refine ⟨(by show 8 ≤ sizeLine; decide), fun L hL => ?_⟩
      exact fin a8 hL rfl
end
end My
set_option Elab.async false
set_option linter.all false
set_option maxRecDepth 100000
set_option maxHeartbeats 8000000
namespace My
open PySem PySem.Spec PyProof.Rows L2
local macro_rules | `(tactic| walk_at "lv") => `(tactic| first | exact Or.inl rfl | exact Or.inr rfl)
def StOk (n : Int) (r : Int × Int) : Prop := (0 ≤ r.1 ∧ r.1 < n) ∧ -20 ≤ r.2 ∧ r.2 ≤ 20
/-- a list of starts at l, new since H0; a hand at p -/
structure SL (p c : Addr) (H0 : Hp) (n : Int) (l : Addr) (H : Hp) (rs : List (Int × Int)) : Prop where
  h0 : HandC H0 p c
  b : But p H0 H
  h : HandC H p c
  nl : H0 l = none
  x : ∃ xs, H l = some (.lst xs) ∧ ImAll H xs (rs.map stD)
  ok : ∀ r ∈ rs, StOk n r
section
variable {p c l : Addr} {H0 H H' : Hp} {n : Int} {rs : List (Int × Int)}
theorem SL.lp (a : SL p c H0 n l H rs) : l ≠ p := (a.h0.ne a.nl).1.symm
theorem SL.but (a : SL p c H0 n l H rs) (b : But p H H') (h : HandC H' p c) : SL p c H0 n l H' rs := by
  obtain ⟨xs, e, i⟩ := a.x
  exact ⟨a.h0, a.b.trans b, h, a.nl, ⟨xs, b _ _ a.lp e, im_all_kt (Kt.hand a.h b) i⟩, a.ok⟩
theorem SL.same (a : SL p c H0 n l H rs) (s : Same H H') : SL p c H0 n l H' rs := a.but (But.of s) (a.h.same s)
theorem SL.len (a : SL p c H0 n l H rs) {xs : List V} (e : H l = some (.lst xs)) : xs.length = rs.length := by
  obtain ⟨ys, e2, i⟩ := a.x
  rw [e] at e2
  cases e2
  have := i.len
  rw [List.length_map] at this
  exact this
theorem SL.push (a : SL p c H0 n l H rs) {r : Int × Int} {q : Addr} {xs : List V} (e : H l = some (.lst xs)) (i : Im H (.ref q) (stD r)) (ok : StOk n r) : SL p c H0 n l (upd H l (.lst (xs ++ [.ref q]))) (rs ++ [r]) := by
  obtain ⟨ys, e2, j⟩ := a.x
  rw [e] at e2
  cases e2
  have lc : c ≠ l := (a.h0.ne a.nl).2
  refine ⟨a.h0, fun b o hb e3 => ?_, a.h.upd a.lp.symm lc, a.nl, ⟨_, upd_same, ?_⟩, fun r' hr' => ?_⟩
  · rw [upd_ne (ne_of_none e3 a.nl)]
    exact a.b b o hb e3
  · rw [List.map_append]
    have k : Kt H (upd H l (.lst (xs ++ [.ref q]))) := Kt.lst e
    exact (im_all_kt k j).snoc (Im.kt k _ _ i)
  · rcases List.mem_append.mp hr' with h | h
    · exact a.ok r' h
    · rw [List.mem_singleton.mp h]
      exact ok
theorem SL.init (h : HandC H p c) (nl : H l = none) : SL p c H n l (upd H l (.lst [])) [] :=
  ⟨h, fun b o hb e => by rw [upd_ne (ne_of_none e nl)]; exact e, h.upd (h.ne nl).1 (h.ne nl).2, nl, ⟨[], upd_same, .nil⟩, fun r hr => by cases hr⟩
end
theorem AL.base {p c l : Addr} {H H1 H' : Hp} {n : Int} {rs : List Ar} (h : HandC H p c) (b : But p H H1) (a : AL p c H1 n l H' rs) : AL p c H n l H' rs := by
  refine ⟨h, b.trans a.b, a.h, ?_, a.x, a.ok⟩
  cases e : H l with
  | none => rfl
  | some o =>
    have := b l o a.lp e
    rw [a.nl] at this
    cases this
/-- the law's own machine: stations, starts, arrows -/
structure BaseAt (p : Addr) (H : Hp) (q l1 l2 : Addr) (n : Int) (ss : List (Int × Int)) (rs : List Ar) : Prop where
  e : H q = some (.lst [.int n, .ref l1, .ref l2])
  st : ∃ xs, H l1 = some (.lst xs) ∧ ImAll H xs (ss.map stD)
  ar : ∃ xs, H l2 = some (.lst xs) ∧ ImAll H xs (rs.map Ar.d)
  qp : q ≠ p
  sp : l1 ≠ p
  ap : l2 ≠ p
  nb : 1 ≤ n ∧ n ≤ 8
  so : ∀ s ∈ ss, StOk n s
  ao : ∀ r ∈ rs, ArOk n r
  sl : ss.length ≤ 3
  al : rs.length ≤ 14
  ne : rs ≠ []
theorem BaseAt.but {p c q l1 l2 : Addr} {H H' : Hp} {n : Int} {ss : List (Int × Int)} {rs : List Ar} (hh : HandC H p c) (b : But p H H') (x : BaseAt p H q l1 l2 n ss rs) : BaseAt p H' q l1 l2 n ss rs := by
  obtain ⟨xs, e1, i1⟩ := x.st
  obtain ⟨ys, e2, i2⟩ := x.ar
  exact ⟨b _ _ x.qp x.e, ⟨xs, b _ _ x.sp e1, im_all_kt (Kt.hand hh b) i1⟩, ⟨ys, b _ _ x.ap e2, im_all_kt (Kt.hand hh b) i2⟩, x.qp, x.sp, x.ap, x.nb, x.so, x.ao, x.sl, x.al, x.ne⟩
section
variable {P : Program} {w : World} {K : PySem.W.Frag} {mg : Str → Option Value} {base : Heap}
def spLma : Sp := fun vs H Q _ => ∃ (p c q t : Addr) (n st : Int) (ms : List V), vs = [.ref p, .ref q, .int 8] ∧ HandC H p c ∧ ShapeAt H q n st t ms ∧ t ≠ p ∧ ∀ u l1 l2 ss rs H', BaseAt p H' u l1 l2 n ss rs → HandC H' p c → But p H H' → Q (.ref u) H'
abbrev s_lma : Stmt := top 51
abbrev N_lma : List Str := ["_law_hand_here", "_law_shape_here", "_law_many", "_law_kind", "_law_arrows", "_law_more", "_law_turn", "_law_come", "_law_go", "_law_starts"]
theorem sc_lma : FnScope N_lma ["_law_hand_here", "_law_shape_here", "_law_many"] (defScope s_lma) := ⟨rfl, rfl, rfl, by decide +kernel, rfl, by decide +kernel, by decide +kernel⟩
theorem eight_at {i : Nat} {v : V} (h : ([.int 1, .int 1, .int 1, .int 1, .int 2, .int 2, .int 3, .int 0] : List V)[i]? = some v) : ∃ m : Int, v = .int m ∧ 0 ≤ m ∧ m ≤ 3 := by
  match i, h with
  | 0, h => cases h; exact ⟨_, rfl, by decide, by decide⟩
  | 1, h => cases h; exact ⟨_, rfl, by decide, by decide⟩
  | 2, h => cases h; exact ⟨_, rfl, by decide, by decide⟩
  | 3, h => cases h; exact ⟨_, rfl, by decide, by decide⟩
  | 4, h => cases h; exact ⟨_, rfl, by decide, by decide⟩
  | 5, h => cases h; exact ⟨_, rfl, by decide, by decide⟩
  | 6, h => cases h; exact ⟨_, rfl, by decide, by decide⟩
  | 7, h => cases h; exact ⟨_, rfl, by decide, by decide⟩
theorem kp_lma (F : At K mg "_law_machine" s_lma) (N : Nb mg) (G : Keeps CX0 P w K mg base "_law_draw" 2 ["_law_hand_here", "_law_many"] spDraw) (Gp : Keeps CX0 P w K mg base "_law_pick" 3 ["_law_hand_here", "_law_things"] spPick)
    (Gv : Keeps CX0 P w K mg base "_law_value" 3 ["_law_hand_here"] spVal) (Gm : Keeps CX0 P w K mg base "_law_move" 5 ["_law_hand_here", "_law_most", "_law_moduli"] spLmo) (Gr : Keeps CX0 P w K mg base "_law_rings" 6 ["_law_hand_here", "_law_shape_here", "_law_cut"] spLrg) :
    Keeps CX0 P w K mg base "_law_machine" 7 ["_law_hand_here", "_law_shape_here", "_law_many"] spLma := by
  refine keeps_of F sc_lma (fun _ _ _ _ _ _ us hl => match us, hl with | [_, _, _], _ => rfl) (fun vs H Q E h => ?_) (fun f cdv A outer s H vs Q E hr h => ?_)
  · obtain ⟨p, c, q, t, n, st, ms, rfl, _⟩ := h
    rfl
  · obtain ⟨p, c, q, t, n, st, ms, rfl, hh, hs, tp, k⟩ := h
    have h2 : Room 2 (A.deeper (envOfC "_law_machine" (defScope s_lma) s.heap.objs.size f cdv)) := hr.mono (by decide)
    have h3 : Room 3 (A.deeper (envOfC "_law_machine" (defScope s_lma) s.heap.objs.size f cdv)) := hr.mono (by decide)
    have h5 : Room 5 (A.deeper (envOfC "_law_machine" (defScope s_lma) s.heap.objs.size f cdv)) := hr.mono (by decide)
    refine ⟨_, (pss_cons (ps_set (i := 3) sc_lma.nd rfl (by walk_at "lv") (pe_k G h2 (by rfl) pass0 (pa_cons (pv 0) (pa_cons pe_int pa_nil))))
        (pss_cons (ps_set (i := 4) sc_lma.nd rfl (by walk_at "lv") (pe_lst pa_nil))
        (pss_cons (ps_set (i := 5) sc_lma.nd rfl (by walk_at "lv") (pe_op op_add pe_int (pe_k G h2 (by rfl) pass0 (pa_cons (pv 0) (pa_cons (pv 2) pa_nil)))))
        (C8.pss_cut (ps_if (pt_cmpR op_gt (pv 3) pe_int (nomark _)) (C8.pss_cut (ps_set (i := 4) sc_lma.nd rfl (by walk_at "lv") (pe_k Gr hr (by rfl) pass0 (pa_cons (pv 0) (pa_cons (pv 1) (pa_cons (pe_ifExp (pt_cmpR op_lt (pv 3) pe_int (nomark _)) (pe_ix ix_tup (pv 1) pe_int (fun _ _ => rfl)) (pe_op op_add pe_int (pe_k G h2 (by rfl) pass0 (pa_cons (pv 0) (pa_cons (pe_ix ix_tup (pv 1) pe_int (fun _ _ => rfl)) pa_nil))))) pa_nil)))))
        (pss_one (ps_set (i := 5) sc_lma.nd rfl (by walk_at "lv") (pe_k G h2 (by rfl) pass0 (pa_cons (pv 0) (pa_cons pe_int pa_nil)))))) pss_nil)
        (pss_cons (ps_for PassesOwn.never rfl (pi_range1 (by rfl) N.range (pa_cons (pv 5) pa_nil)) (pg_name (i := 6) sc_lma.nd rfl (by walk_at "lv")) (pss_cons (ps_set (i := 7) sc_lma.nd rfl (by walk_at "lv") (pe_k G h2 (by rfl) pass0 (pa_cons (pv 0) (pa_cons (pe_ix ix_tup (pv 1) pe_int (fun _ _ => rfl)) pa_nil))))
        (pss_cons (ps_set (i := 8) sc_lma.nd rfl (by walk_at "lv") (pe_k G h2 (by rfl) pass0 (pa_cons (pv 0) (pa_cons (pe_ix ix_tup (pv 1) pe_int (fun _ _ => rfl)) pa_nil))))
        (pss_one (ps_expr (pe_bm PySem.F.plainAttrs_list PySem.F.slot_list_append PySem.F.type_list_append mt_append (pv 4) (pa_cons (pe_tup (pa_cons (pv 7) (pa_cons (pe_k Gm h5 (by rfl) pass0 (pa_cons (pv 0) (pa_cons (pe_ix ix_tup (pv 1) pe_int (fun _ _ => rfl)) (pa_cons (pe_ix ix_tup (pv 1) pe_int (fun _ _ => rfl)) pa_nil)))) (pa_cons (pv 8) pa_nil)))) pa_nil)))))))
        (pss_cons (ps_set (i := 9) sc_lma.nd rfl (by walk_at "lv") (pe_lst pa_nil))
        (pss_cons (ps_for PassesOwn.never rfl (pi_range1 (by rfl) N.range (pa_cons (pe_k Gp h3 (by rfl) pass0 (pa_cons (pv 0) (pa_cons (pe_lst (pa_cons pe_int (pa_cons pe_int (pa_cons pe_int (pa_cons pe_int (pa_cons pe_int (pa_cons pe_int (pa_cons pe_int (pa_cons pe_int pa_nil))))))))) pa_nil))) pa_nil)) (pg_name (i := 6) sc_lma.nd rfl (by walk_at "lv")) (pss_one (ps_expr (pe_bm PySem.F.plainAttrs_list PySem.F.slot_list_append PySem.F.type_list_append mt_append (pv 9) (pa_cons (pe_tup (pa_cons (pe_k G h2 (by rfl) pass0 (pa_cons (pv 0) (pa_cons (pe_ix ix_tup (pv 1) pe_int (fun _ _ => rfl)) pa_nil))) (pa_cons (pe_k Gv h3 (by rfl) pass0 (pa_cons (pv 0) pa_nil)) pa_nil))) pa_nil)))))
        (pss_one (ps_ret (pe_lst (pa_cons (pe_ix ix_tup (pv 1) pe_int (fun _ _ => rfl)) (pa_cons (pv 9) (pa_cons (pv 4) pa_nil))))))))))))), ?_⟩
    obtain ⟨hq, hml, nb, sb⟩ := id hs
    have qp : q ≠ p := hh.nt hq
    refine ⟨_, rfl, p, c, 8, rfl, hh, ⟨by decide, by decide⟩, fun kd H1 k0 k8 hh1 b1 => ⟨(by show 0 ≤ sizeLine; decide), fun l hl => ?_⟩⟩
    have a0 : AL p c H n l (upd H1 l (.lst [])) [] := AL.base hh b1 (AL.init hh1 hl)
    refine ⟨_, rfl, _, rfl, p, c, 8, rfl, a0.h, ⟨by decide, by decide⟩, fun mo H2 m0 m8 hh2 b2 => ⟨_, _, rfl, rfl, ?_⟩⟩
    have a2 := a0.but b2 hh2
    refine ⟨fun σ' H' => ∃ (l : Addr) (rs : List Ar) (more : Int), σ' = [some (.ref p), some (.ref q), some (.int 8), some (.int kd), some (.ref l), some (.int more), none, none, none, none] ∧ AL p c H n l H' rs ∧ rs.length ≤ 10 ∧ 0 ≤ more ∧ (rs.length : Int) + more ≤ 14 ∧ (rs ≠ [] ∨ 1 ≤ more), ?_, ?_⟩
    · refine ⟨_, rfl, _, _, rfl, rfl, _, rfl, ite2 (fun _ => ?_) (fun _ => ⟨l, [], 2 + mo, rfl, a2, Nat.zero_le _, by omega, by show (0 : Int) + (2 + mo) ≤ 14; omega, .inr (by omega)⟩)⟩
      refine ⟨fun σ' H' => ∃ (l : Addr) (rs : List Ar), σ' = [some (.ref p), some (.ref q), some (.int 8), some (.int kd), some (.ref l), some (.int (2 + mo)), none, none, none, none] ∧ AL p c H n l H' rs ∧ rs.length ≤ 10 ∧ rs ≠ [], ?_, ?_⟩
      · refine ⟨_, rfl, _, rfl, _, rfl, _, _, rfl, rfl, _, rfl, ite2 (fun _ => ?_) (fun _ => ?_)⟩
        · refine ⟨_, rfl, q, _, _, _, rfl, rfl, SqT.of (a2.b _ _ qp hq), rfl, p, c, q, t, n, st, n, ms, rfl, hh2, hs.but hh tp a2.b, tp, ⟨nb.1, Int.le_refl n⟩, fun l rs H' a al ne => ⟨l, rs, rfl, AL.base hh a2.b a, al, ne⟩⟩
        · refine ⟨_, rfl, _, rfl, q, _, _, _, rfl, rfl, SqT.of (a2.b _ _ qp hq), rfl, p, c, n, rfl, hh2, ⟨by omega, log_int (by omega) (by omega)⟩, fun d H3 d0 d1 hh3 b3 => ⟨_, _, rfl, rfl, ?_⟩⟩
          have a3 := a2.but b3 hh3
          exact ⟨p, c, q, t, n, st, 1 + d, ms, rfl, hh3, hs.but hh tp a3.b, tp, by omega, fun l rs H' a al ne => ⟨l, rs, rfl, AL.base hh a3.b a, al, ne⟩⟩
      · rintro _ H3 ⟨l, rs, rfl, a3, al, ne⟩
        exact ⟨_, rfl, p, c, 4, rfl, a3.h, ⟨by decide, by decide⟩, fun m2 H4 m20 m24 hh4 b4 => ⟨l, rs, m2, rfl, a3.but b4 hh4, al, m20, by omega, .inl ne⟩⟩
    · rintro _ H3 ⟨l, rs, more, rfl, a3, al, m0, ml, ne⟩
      refine ⟨_, rfl, more, rfl, by omega, by omega, for_it walk_range (fun i σ H5 => ∃ (x6 x7 x8 : Option V) (rs2 : List Ar), σ = [some (.ref p), some (.ref q), some (.int 8), some (.int kd), some (.ref l), some (.int more), x6, x7, x8, none] ∧ AL p c H n l H5 rs2 ∧ rs2.length = rs.length + i) ⟨_, _, _, rs, rfl, a3, rfl⟩ (fun i σ H5 _ _ => trivial) ?_ ?_⟩
      · rintro i v σ H5 H6 hi ⟨x6, x7, x8, rs2, rfl, a5, lr⟩ ⟨rfl, rfl⟩
        have hi : (i : Int) < more := by omega
        refine ⟨_, rfl, _, rfl, q, _, _, _, rfl, rfl, SqT.of (a5.b _ _ qp hq), rfl, p, c, n, rfl, a5.h, ⟨by omega, log_int (by omega) (by omega)⟩, fun o H7 o0 o1 hh7 b7 => ?_⟩
        have a7 := a5.but b7 hh7
        refine ⟨_, rfl, _, rfl, q, _, _, _, rfl, rfl, SqT.of (a7.b _ _ qp hq), rfl, p, c, n, rfl, a7.h, ⟨by omega, log_int (by omega) (by omega)⟩, fun g H8 g0 g1 hh8 b8 => ?_⟩
        have a8 := a7.but b8 hh8
        obtain ⟨xs, ex, ix⟩ := a8.x
        refine ⟨_, rfl, .inl ⟨rfl, _, SqL.of ex⟩, _, rfl, _, rfl, _, rfl, q, _, _, _, rfl, rfl, SqT.of (a8.b _ _ qp hq), rfl, _, rfl, q, _, _, _, rfl, rfl, SqT.of (a8.b _ _ qp hq), rfl, p, c, t, st, ms, rfl, hh8, hml.but tp a8.b, tp, ⟨by omega, by omega⟩, fun m mv H9 mok mr hh9 b9 => ⟨_, rfl, (by show 3 ≤ sizeLine; decide), fun t3 ht3 => ?_⟩⟩
        have a9 := a8.but b9 hh9
        have ex9 : H9 l = some (.lst xs) := b9 _ _ a8.lp ex
        have s9 := same_new (o := .tup [V.int o, V.ref m, V.int g]) (Same.refl H9) ht3
        have lx := a9.len ex9
        have i9 : Im (upd H9 t3 (.tup [V.int o, V.ref m, V.int g])) (.ref t3) (Ar.d ⟨o, mv, g⟩) := by
          obtain ⟨_, em, mr9⟩ := Im.mv (Im.kt (Kt.of s9) _ _ (im_mv mr))
          cases em
          exact im_ar (r := ⟨o, mv, g⟩) upd_same mr9
        exact ⟨l, xs, _, rfl, rfl, s9 _ _ ex9, smallB (by omega), _, _, _, _, rfl, (a9.same s9).push (s9 _ _ ex9) i9 ⟨mok, ⟨o0, o1⟩, g0, g1⟩, by rw [List.length_append, lr]; rfl⟩
      · rintro σ H5 ⟨x6, x7, x8, rs2, rfl, a5, lr⟩
        have rne : rs2 ≠ [] := fun z => by
          rw [z] at lr
          have : rs.length = 0 ∧ more.toNat = 0 := by simp at lr; omega
          rcases ne with ne | ne
          · exact ne (List.eq_nil_of_length_eq_zero this.1)
          · omega
        refine ⟨(by show 0 ≤ sizeLine; decide), fun l1 hl1 => ?_⟩
        have c0 : SL p c H5 n l1 (upd H5 l1 (.lst [])) [] := SL.init a5.h hl1
        refine ⟨_, rfl, (by show 8 ≤ sizeLine; decide), fun l2 hl2 => ?_⟩
        have c2 := c0.same (same_new (o := .lst [V.int 1, V.int 1, V.int 1, V.int 1, V.int 2, V.int 2, V.int 3, V.int 0]) (Same.refl _) hl2)
        refine ⟨p, c, l2, _, rfl, c2.h, upd_same, (c0.h.ne hl2).1.symm, ⟨by decide, by decide⟩, fun i v H7 hv hh7 b7 => ?_⟩
        obtain ⟨m, rfl, m0, m3⟩ := eight_at hv
        have c7 := c2.but b7 hh7
        refine ⟨m, rfl, by omega, by omega, for_it walk_range (fun i σ H8 => ∃ (x6 x7 x8 : Option V) (ss : List (Int × Int)), σ = [some (.ref p), some (.ref q), some (.int 8), some (.int kd), some (.ref l), some (.int more), x6, x7, x8, some (.ref l1)] ∧ SL p c H5 n l1 H8 ss ∧ ss.length = i) ⟨_, _, _, [], rfl, c7, rfl⟩ (fun i σ H5 _ _ => trivial) ?_ ?_⟩
        · rintro i v σ H9 H8 hi ⟨x6, x7, x8, ss, rfl, c8, ls⟩ ⟨rfl, rfl⟩
          have hi : (i : Int) < m := by omega
          obtain ⟨xs, ex, ix⟩ := c8.x
          have d8 : But p H H8 := a5.b.trans c8.b
          refine ⟨_, rfl, .inl ⟨rfl, _, SqL.of ex⟩, _, rfl, _, rfl, q, _, _, _, rfl, rfl, SqT.of (d8 _ _ qp hq), rfl, p, c, n, rfl, c8.h, ⟨by omega, log_int (by omega) (by omega)⟩, fun o H10 o0 o1 hh10 b10 => ⟨_, rfl, p, c, rfl, hh10, fun v H11 v0 v1 hh11 b11 => ⟨(by show 2 ≤ sizeLine; decide), fun t3 ht3 => ?_⟩⟩⟩
          have c11 := (c8.but b10 hh10).but b11 hh11
          have ex11 : H11 l1 = some (.lst xs) := b11 _ _ c8.lp (b10 _ _ c8.lp ex)
          have s9 := same_new (o := .tup [V.int o, V.int v]) (Same.refl H11) ht3
          have lx := c11.len ex11
          exact ⟨l1, xs, _, rfl, rfl, s9 _ _ ex11, smallB (by omega), _, _, _, _, rfl, (c11.same s9).push (r := (o, v)) (s9 _ _ ex11) (.tup upd_same (.cons (.int _) (.cons (.int _) .nil))) ⟨⟨o0, o1⟩, v0, v1⟩, by rw [List.length_append, ls]; rfl⟩
        · rintro σ H8 ⟨x6, x7, x8, ss, rfl, c8, ls⟩
          have d8 : But p H H8 := a5.b.trans c8.b
          have a8 := a5.but c8.b c8.h
          refine ⟨_, rfl, q, _, _, _, rfl, rfl, SqT.of (d8 _ _ qp hq), rfl, _, rfl, _, rfl, (by show 3 ≤ sizeLine; decide), fun u hu => ?_⟩
          have s9 := same_new (o := .lst [V.int n, V.ref l1, V.ref l]) (Same.refl H8) hu
          obtain ⟨xs, ex, ix⟩ := c8.x
          obtain ⟨ys, ey, iy⟩ := a8.x
          refine k u l1 l ss rs2 _ ⟨upd_same, ⟨xs, s9 _ _ ex, im_all_kt (Kt.of s9) ix⟩, ⟨ys, s9 _ _ ey, im_all_kt (Kt.of s9) iy⟩, (c8.h.ne hu).1.symm, c8.lp, a8.lp, nb, c8.ok, a8.ok, by omega, by omega, rne⟩ (c8.h.same s9) (d8.trans (But.of s9))
end
end My
set_option Elab.async false
set_option linter.all false
set_option maxRecDepth 100000
set_option maxHeartbeats 8000000
namespace My
open PySem PySem.Spec PyProof.Rows L2
local macro_rules | `(tactic| walk_at "lv") => `(tactic| first | exact Or.inl rfl | exact Or.inr rfl)
/-! ### isinstance(e, c) of the error that the suite holds, with its own dict -/
def rIsEd (K : PySem.W.Frag) (D a : Addr) (cls : Value) (d : Option Addr) : List V → Hp → VK → Prop := fun xs H Q => ∃ (c : V) (cv : Value) (b : Bool), xs = [.ref a, c] ∧ cls = .ref D ∧ (∀ u, RelV c u → u = cv) ∧ PySem.W.kitOne K (.ref D) cv = some b ∧ (∃ dd fs, d = some dd ∧ H dd = some (.xd fs)) ∧ Q (.bl b) H
theorem call_isEd {X : Cx} {x b : Str} {fs : List Str} {a : Addr} {oe : Obj} {cls : Value} {d : Option Addr} {pn : List (Addr × Obj)} (T : ExF X.K X.mg x b fs) (hn : PySem.W.specialIn X.K (.builtin "object.__class__") "__get__" = some (some (.builtin "getset_descriptor.__get__"))) (ht : PySem.W.takesIn X.K (.builtin "object.__class__") = some true)
    (hz : Zc cls d oe) (hf : ∃ vs, oe.data = .fields vs) : CallR (X.suite a ((a, oe) :: pn)) (.builtin "isinstance") (rIsEd X.K (He.ga X.K x) a cls d) := by
  intro pns s σ H xs us Q I r h
  obtain ⟨c, cv, bb, rfl, rfl, hcv, e, ⟨dd, f2, rfl, ed⟩, q⟩ := h
  cases r with
  | cons rx rr =>
    cases rr with
    | cons rt rr =>
      cases rr
      cases rx
      have ec := hcv _ rt
      subst ec
      obtain ⟨hget, _⟩ := I.pin (a, oe) (List.mem_append_left _ List.mem_cons_self)
      obtain ⟨vs, hd⟩ := hf
      obtain ⟨mA, hns, _⟩ := (show ObjOk X.prog X.w H s.heap dd (.xd f2) from I.hok dd _ ed)
      obtain ⟨o2, ho2, _⟩ := lookIn_ns hns
      have J : PySem.W.InstAt s.heap a oe (He.ga X.K x) (some o2) := ⟨hget, hz.1, by unfold PySem.W.notCls; rw [hd] <;> rfl, by rw [hz.2]; exact ho2⟩
      exact PySem.W.kia_one (PySem.W.kitx_exc T.cl T.ga T.gg T.exC T.ca hn ht T.mo) I.kIn J e (fun z => nomatch z) fun tk => ⟨.bl bb, H, I.tok tk, rfl, q⟩
/-- BadMachine in full -/
structure ErrM2 (P : Program) (w : World) (K : PySem.W.Frag) (mg : Str → Option Value) (base : Heap) : Prop where
  m : ErrM P w K mg base
  xf : XfC K (He.ga K "BadMachine")
  xm : PySem.W.exmOne K (.ref (He.ga K "BadMachine")) (.ref (He.ga K "BadMachine")) = some true
  gb : mg "BookError" = some (.ref (He.ga K "BookError"))
  (hn : PySem.W.specialIn K (.builtin "object.__class__") "__get__" = some (some (.builtin "getset_descriptor.__get__")))
  (ht : (PySem.W.takesIn K (.builtin "object.__class__")) = some true)
section
variable {P : Program} {w : World} {K : PySem.W.Frag} {mg : Str → Option Value} {base : Heap}
/-! ### _law_shown -/
def spLsw : Sp := fun vs H Q _ => ∃ (p c a : Addr) (xs : List V), vs = [.ref p, .ref a] ∧ HandC H p c ∧ SqA H a xs ∧ a ≠ p ∧ ∀ b H', SqA H' b xs → b ≠ p → HandC H' p c → But p H H' → Q (.ref b) H'
abbrev s_lsw : Stmt := top 56
abbrev N_lsw : List Str := ["_law_hand_here", "_law_things"]
theorem sc_lsw : FnScope N_lsw ["_law_hand_here", "_law_things"] (defScope s_lsw) := ⟨rfl, rfl, rfl, by decide +kernel, rfl, by decide +kernel, by decide +kernel⟩
theorem SqA.but {p a : Addr} {H H' : Hp} {xs : List V} (h : SqA H a xs) (ap : a ≠ p) (b : But p H H') : SqA H' a xs := h.elim (fun e => .inl (b _ _ ap e)) fun e => .inr (b _ _ ap e)
theorem kp_lsw (F : At K mg "_law_shown" s_lsw) (N : Nb mg) (G : Keeps CX0 P w K mg base "_law_draw" 2 ["_law_hand_here", "_law_many"] spDraw) : Keeps CX0 P w K mg base "_law_shown" 3 ["_law_hand_here", "_law_things"] spLsw := by
  refine keeps_of F sc_lsw (fun _ _ _ _ _ _ us hl => match us, hl with | [_, _], _ => rfl) (fun vs H Q E h => ?_) (fun f cdv A outer s H vs Q E hr h => ?_)
  · obtain ⟨p, c, a, xs, rfl, _⟩ := h
    rfl
  · obtain ⟨p, c, a, xs, rfl, hh, sq, ap, k⟩ := h
    refine ⟨_, (pss_cons (ps_if (pt_cmpR op_eq (pe_k G hr (by rfl) pass0 (pa_cons (pv 0) (pa_cons pe_int pa_nil))) pe_int (nomark _)) (pss_one (ps_ret (pe_callTy call_list_of (by rfl) N.list (by decide +kernel) (pa_cons (pv 1) pa_nil)))) pss_nil)
        (pss_one (ps_ret (pe_callTy call_tuple_of (by rfl) N.tuple (by decide +kernel) (pa_cons (pv 1) pa_nil))))), ?_⟩
    refine ⟨_, rfl, p, c, 2, rfl, hh, ⟨by decide, by decide⟩, fun r H1 r0 r1 hh1 b1 => ⟨rfl, _, rfl, ite2 (fun _ => ?_) (fun _ => ?_)⟩⟩
    · have sq1 := sq.but ap b1
      exact ⟨_, rfl, a, xs, rfl, lenA sq1, fun l hl => k l _ (.inl upd_same) (hh1.ne hl).1.symm (hh1.same (same_new (Same.refl H1) hl)) (b1.trans (But.of (same_new (Same.refl H1) hl)))⟩
    · have sq1 := sq.but ap b1
      rcases sq1 with e | e
      · exact ⟨_, rfl, a, xs, rfl, .inl ⟨SqL.of e, fun l hl => k l _ (.inr upd_same) (hh1.ne hl).1.symm (hh1.same (same_new (Same.refl H1) hl)) (b1.trans (But.of (same_new (Same.refl H1) hl)))⟩⟩
      · exact ⟨_, rfl, a, xs, rfl, .inr ⟨SqT.of e, k a _ (.inr e) ap hh1 b1⟩⟩
/-! ### _law_told -/
def spLtd (K : PySem.W.Frag) : Sp := fun vs H Q _ => ∃ (q : Addr) (zs : List V) (xn x y : V) (dn d e : PyData), vs = [xn, x, y] ∧ H q = some (.lst zs) ∧ Tg q H xn dn ∧ Tg q H x d ∧ Tg q H y e ∧
  MachEnd K (fun z i => ∀ t H', Same H H' → H' t = some (.lst [.str "bad", .str z, .int i, .bl true]) → Q (.ref t) H')
    (fun n ss rs => ∀ t a b H', Same H H' → H' t = some (.lst [.str "good", .int n, .ref a, .ref b]) → Im H' (.ref a) (startsD ss) → Im H' (.ref b) (arrowsD rs) → Q (.ref t) H') dn d e
abbrev s_ltd : Stmt := top 58
abbrev N_ltd : List Str := ["_law_stations", "_law_starts", "_law_arrows", "_law_machine_here", "raised"]
theorem sc_ltd : FnScope N_ltd ["_law_stations", "_law_starts", "_law_arrows"] (defScope s_ltd) := ⟨rfl, rfl, rfl, by decide +kernel, rfl, by decide +kernel, by decide +kernel⟩
def tLtd (K : PySem.W.Frag) (a : Addr) (cls : Value) (d : Option Addr) : TS := tRet (tLst (tCons (tC (.str "bad")) (tCons (tXf a cls d (He.ga K "BadMachine") "what" (tVar 4)) (tCons (tXf a cls d (He.ga K "BadMachine") "at" (tVar 4)) (tCons (tCB (rIsEd K (He.ga K "BadMachine") a cls d) (tCons (tVar 4) (tCons (tC (.ref (He.ga K "BookError"))) tNil))) tNil)))))
theorem MachEnd.mono {K : PySem.W.Frag} {bad bad' : Str → Int → Prop} {good good' : Int → List (Int × Int) → List Ar → Prop} {dn dx dy : PyData} (hb : ∀ z i, bad z i → bad' z i) (hg : ∀ n ss rs, good n ss rs → good' n ss rs) (h : MachEnd K bad good dn dx dy) : MachEnd K bad' good' dn dx dy :=
  ⟨fun z => hb _ _ (h.1 z), fun n e n1 n2 => ⟨fun i hi => hb _ _ ((h.2 n e n1 n2).1 i hi), fun ds gd => ⟨fun i hi => hb _ _ (((h.2 n e n1 n2).2 ds gd).1 i hi), fun es ge => hg _ _ _ (((h.2 n e n1 n2).2 ds gd).2 es ge)⟩⟩⟩
theorem kp_ltd (F : At K mg "_law_told" s_ltd) (N : Nb mg) (S : ErrM2 P w K mg base) (T : MachTxt K mg (He.ga K "Machine")) (M : Mk K (He.ga K "Machine") (He.ma K (He.ga K "Machine") "__init__"))
    (I : KeepsM (CX P w) P w K mg base (He.ma K (He.ga K "Machine") "__init__") 7 ["self", "stations", "starts", "arrows"] (spMi K (He.ga K "Machine"))) : Keeps CX0 P w K mg base "_law_told" 9 ["_law_stations", "_law_starts", "_law_arrows"] (spLtd K) := by
  refine keeps_of F sc_ltd (fun _ _ _ _ _ _ us hl => match us, hl with | [_, _, _], _ => rfl) (fun vs H Q E h => ?_) (fun f cdv A outer s H vs Q E hr h => ?_)
  · obtain ⟨q, zs, xn, x, y, dn, d, e, rfl, _⟩ := h
    rfl
  · obtain ⟨q, zs, xn, x, y, dn, d, e, rfl, hq, tn, tx, ty, k⟩ := h
    obtain ⟨fI, FI, bI⟩ := I
    have T0 := S.m.xt
    refine ⟨_, (pss_cons (ps_try_as (i := 4) (tb := fun W => tAsg (tMakeS (He.ga K "Machine") (spMi K (He.ga K "Machine")) (WE W) (tCons (tVar 0) (tCons (tVar 1) (tCons (tVar 2) tNil)))) (gName 3)) (ts := fun a cls d => tLtd K a cls d) (Wout := fun _ _ _ _ => False) rfl rfl sc_ltd.nd rfl rfl ⟨(by rfl), by decide, .inl T0.g⟩ takes0
      (fun W pn xe tk _ => pss_one (ps_set (i := 3) sc_ltd.nd rfl (by walk_at "lv") (pe_makeS M FI hr (by rfl) T.mgC bI (fun σ => passAt tk σ) (pa_cons (pv 0) (pa_cons (pv 1) (pa_cons (pv 2) pa_nil))))))
      (fun a oe cls d pn hz hf => pss_one (ps_ret (pe_lst (pa_cons pe_str (pa_cons (pe_xf S.xf (T0.no _ (by decide)) hz hf (pv 4)) (pa_cons (pe_xf S.xf (T0.no _ (by decide)) hz hf (pv 4)) (pa_cons (pe_callB (call_isEd T0 S.hn S.ht hz hf) (by rfl) N.isinstance boot_isinstance (pa_cons (pv 4) (pa_cons (pe_glob (v := .ref (He.ga K "BookError")) (by rfl) S.gb rfl) pa_nil))) pa_nil))))))))
        (pss_one (ps_ret (pe_lst (pa_cons pe_str (pa_cons (pe_fld (pv 3) rfl) (pa_cons (pe_fld (pv 3) rfl) (pa_cons (pe_fld (pv 3) rfl) pa_nil)))))))), ?_⟩
    refine ⟨_, rfl, _, rfl, _, rfl, ?_⟩
    dsimp only [tNil]
    refine mi_make hq tn tx ty (k.mono (fun z i hb dd H' s' ed => ?_) (fun n ss rs hg m r H' s' ma => ?_))
    · refine ⟨true, S.xm, fun _ a ha => ?_, fun z => nomatch z⟩
      refine ⟨_, rfl, rfl, rfl, dd, _, .str z, rfl, ed, rfl, _, rfl, rfl, rfl, dd, _, .int i, rfl, ed, rfl, _, rfl, .ref (He.ga K "BookError"), .ref (He.ga K "BookError"), true, rfl, rfl, fun u r => r, T0.kB, ⟨dd, _, rfl, ed⟩, (by show 4 ≤ sizeLine; decide), fun t ht => ?_⟩
      exact hb t _ (same_new s' ht) upd_same
    · obtain ⟨dx, a, b, l, hp, ir, ia, ib, ok⟩ := ma
      refine ⟨_, rfl, m, _, dx, _, _, rfl, hp, T.cl, T.n1, mf_stations, _, rfl, m, _, dx, _, _, rfl, hp, T.cl, T.n2, mf_starts, _, rfl, m, _, dx, _, _, rfl, hp, T.cl, T.n3, mf_arrows, (by show 4 ≤ sizeLine; decide), fun t ht => ?_⟩
      have s2 := same_new (o := .lst [V.str "good", V.int n, V.ref a, V.ref b]) (Same.refl H') ht
      exact hg t a b _ (s'.trans s2) upd_same (Im.kt (Kt.of s2) _ _ ia) (Im.kt (Kt.of s2) _ _ ib)
/-! ### _law_move_told -/
def spLmt : Sp := fun vs H Q _ => ∃ (p : Addr) (x : V) (d : PyData), vs = [x] ∧ Tg p H x d ∧ (fmT d = false → ∀ t H', Same H H' → H' t = some (.lst [.str "bad", .bl false]) → Q (.ref t) H') ∧
  (fmT d = true → ∀ t a H', Same H H' → H' t = some (.lst [.str "good", .ref a]) → Im H' (.ref a) (mvOf d).d → Q (.ref t) H')
abbrev s_lmt : Stmt := top 59
abbrev N_lmt : List Str := ["_law_move_here", "_law_told_here", "raised"]
theorem sc_lmt : FnScope N_lmt ["_law_move_here"] (defScope s_lmt) := ⟨rfl, rfl, rfl, by decide +kernel, rfl, by decide +kernel, by decide +kernel⟩
def tLmt (K : PySem.W.Frag) (a : Addr) (cls : Value) (d : Option Addr) : TS := tRet (tLst (tCons (tC (.str "bad")) (tCons (tCB (rIsE0 K (He.ga K "BadMove") a cls d) (tCons (tVar 2) (tCons (tC (.ref (He.ga K "BadMachine"))) tNil))) tNil)))
theorem kp_lmt (F : At K mg "_law_move_told" s_lmt) (N : Nb mg) (T : Err1 K mg "BadMove") (gM : mg "BadMachine" = some (.ref (He.ga K "BadMachine"))) (no : PySem.W.kitOne K (.ref (He.ga K "BadMove")) (.ref (He.ga K "BadMachine")) = some false) (G : Keeps (CX P w) P w K mg base "check_move" 5 ["move"] (spCm K)) :
    Keeps CX0 P w K mg base "_law_move_told" 6 ["_law_move_here"] spLmt := by
  refine keeps_of F sc_lmt (fun _ _ _ _ _ _ us hl => match us, hl with | [_], _ => rfl) (fun vs H Q E h => ?_) (fun f cdv A outer s H vs Q E hr h => ?_)
  · obtain ⟨p, x, d, rfl, _⟩ := h
    rfl
  · obtain ⟨p, x, d, rfl, tx, kf, kt⟩ := h
    obtain ⟨fc, Fc, bc, kpc, mc⟩ := G
    refine ⟨_, (pss_cons (ps_try_as (i := 2) (tb := fun W => tAsg (tCallS (spCm K) (WE W) (tCons (tVar 0) tNil)) (gName 1)) (ts := fun a cls d => tLmt K a cls d) (Wout := fun _ _ _ _ => False) rfl rfl sc_lmt.nd rfl rfl ⟨(by rfl), by decide, .inl T.f.g⟩ takes0
      (fun W pn xe tk _ => pss_one (ps_set (i := 1) sc_lmt.nd rfl (by walk_at "lv") (pe_callS Fc hr (by rfl) mc kpc bc (fun σ => passAt tk σ) (pa_cons (pv 0) pa_nil))))
      (fun a oe cls d pn hz hf => pss_one (ps_ret (pe_lst (pa_cons pe_str (pa_cons (pe_callB (call_isE0 T.c hz hf) (by rfl) N.isinstance boot_isinstance (pa_cons (pv 2) (pa_cons (pe_glob (v := .ref (He.ga K "BadMachine")) (by rfl) gM rfl) pa_nil))) pa_nil))))))
        (pss_one (ps_ret (pe_lst (pa_cons pe_str (pa_cons (pv 1) pa_nil)))))), ?_⟩
    refine ⟨_, rfl, p, x, d, rfl, tx, fun ef H1 s1 => ?_, fun et a H1 s1 ia => ?_⟩
    · refine ⟨true, T.xm, fun _ a ha => ?_, fun z => nomatch z⟩
      refine ⟨_, rfl, rfl, rfl, .ref _, .ref _, false, rfl, fun u r => r, no, (by show 2 ≤ sizeLine; decide), fun t ht => ?_⟩
      exact kf ef t _ (same_new s1 ht) upd_same
    · refine ⟨_, rfl, (by show 2 ≤ sizeLine; decide), fun t ht => ?_⟩
      exact kt et t a _ (same_new s1 ht) upd_same (Im.kt (Kt.of (same_new (Same.refl H1) ht)) _ _ ia)
end
end My
set_option Elab.async false
set_option linter.all false
set_option maxRecDepth 100000
set_option maxHeartbeats 8000000
namespace My
open PySem PySem.Spec PyProof.Rows L2
local macro_rules | `(tactic| walk_at "lv") => `(tactic| first | exact Or.inl rfl | exact Or.inr rfl)
def roomD (st x r k : Int) : PyData := .tuple [.tuple [.int st, .int (sgn x), .int ((ab x - r - 1) % k)], .int ((ab x - r - 1) / k)]
theorem shp_room (st x r k : Int) : SeqAt.shaped (roomD st x r k) = true := by
  unfold roomD
  exact (by kernel_rfl : SeqAt.shaped (.tuple [.tuple [.int st, .int (sgn x), .int ((ab x - r - 1) % k)], .int ((ab x - r - 1) / k)]) = true)
theorem room_dp {K : PySem.W.Frag} {H : Hp} {q t : Addr} {st x r k : Int} (h1 : H q = some (.tup [.ref t, .int ((ab x - r - 1) / k)])) (h2 : H t = some (.tup [.int st, .int (sgn x), .int ((ab x - r - 1) % k)])) : Dp K H (.ref q) (roomD st x r k) :=
  .tup (SqT.of h1) (.cons (.tup (SqT.of h2) (.cons (.int _) (.cons (.int _) (.cons (.int _) .nil)))) (.cons (.int _) .nil))
/-- the number of the room is the number -/
theorem room_back {x r k : Int} (hx : r < ab x) (hr : 0 ≤ r) : sgn x * (r + 1 + k * ((ab x - r - 1) / k) + (ab x - r - 1) % k) = x := by
  have e : k * ((ab x - r - 1) / k) + (ab x - r - 1) % k = ab x - r - 1 := by
    have := Int.emod_add_mul_ediv (ab x - r - 1) k
    omega
  have e2 : r + 1 + k * ((ab x - r - 1) / k) + (ab x - r - 1) % k = ab x := by omega
  rw [e2]
  unfold sgn ab at *
  split <;> split <;> omega
theorem rgV_ints (a b : Int) : ∃ ns : List Int, rgV a b = ns.map V.int ∧ ns.length = (b - a).toNat := by
  refine ⟨(List.range (b - a).toNat).map fun i => a + (i : Nat), ?_, by rw [List.length_map, List.length_range]⟩
  unfold rgV
  rw [List.map_map]
  rfl
theorem log10 : ((10 : Int) ^ 30).natAbs.log2 < 9000 := by decide +kernel
section
variable {P : Program} {w : World} {K : PySem.W.Frag} {mg : Str → Option Value} {base : Heap}
def spRh (C : Addr) : Sp := fun vs H Q _ => ∃ (p c m : Addr) (n r : Int) (ss : List (Int × Int)) (rs : List Ar), vs = [.ref p, .ref m, .int r, .int (blockOf (toldOf rs))] ∧ HandC H p c ∧ MachAt C H m n ss rs r ∧ (1 ≤ n ∧ n ≤ 8) ∧ r ≤ 1000 ∧ ∀ H', HandC H' p c → But p H H' → Q (.bl true) H'
abbrev s_rh : Stmt := top 60
abbrev N_rh : List Str := ["_law_hand_here", "_law_machine_here", "_law_rim_here", "_law_block_here", "_law_far", "_law_numbers", "_law_station", "_law_number", "_law_told_here", "_law_height", "_law_side", "_law_rest"]
theorem sc_rh : FnScope N_rh ["_law_hand_here", "_law_machine_here", "_law_rim_here", "_law_block_here"] (defScope s_rh) := ⟨rfl, rfl, rfl, by decide +kernel, rfl, by decide +kernel, by decide +kernel⟩
theorem kp_rh {C : Addr} (F : At K mg "_law_rooms_hold" s_rh) (T : MachTxt K mg C) (N : Nb mg) (G : Keeps CX0 P w K mg base "_law_draw" 2 ["_law_hand_here", "_law_many"] spDraw) (Go : Keeps CX0 P w K mg base "room_of" 1 ["machine", "station", "number"] (spRo C))
    (Gl_ : Keeps CX0 P w K mg base "_law_room" 1 ["_law_rim_here", "_law_block_here", "_law_station", "_law_number"] spLro) (Gn : Keeps CX0 P w K mg base "number_of" 1 ["machine", "room", "height"] (spNo C)) :
    Keeps CX0 P w K mg base "_law_rooms_hold" 3 ["_law_hand_here", "_law_machine_here", "_law_rim_here", "_law_block_here"] (spRh C) := by
  refine keeps_of F sc_rh (fun _ _ _ _ _ _ us hl => match us, hl with | [_, _, _, _], _ => rfl) (fun vs H Q E h => ?_) (fun f cdv A outer s H vs Q E hr h => ?_)
  · obtain ⟨p, c, m, n, r, ss, rs, rfl, _⟩ := h
    rfl
  · obtain ⟨p, c, m, n, r, ss, rs, rfl, hh, ma, nb, r9, k⟩ := h
    have h2 : Room 2 (A.deeper (envOfC "_law_rooms_hold" (defScope s_rh) s.heap.objs.size f cdv)) := hr.mono (by decide)
    have h1 : Room 1 (A.deeper (envOfC "_law_rooms_hold" (defScope s_rh) s.heap.objs.size f cdv)) := hr.mono (by decide)
    refine ⟨_, (pss_cons (ps_set (i := 4) sc_rh.nd rfl (by walk_at "lv") (pe_op op_add (pe_op op_add (pv 2) pe_int) (pe_k G h2 (by rfl) pass0 (pa_cons (pv 0) (pa_cons (pe_op op_pow pe_int pe_int) pa_nil)))))
        (pss_cons (ps_set (i := 5) sc_rh.nd rfl (by walk_at "lv") (pe_op op_cat (pe_listRg (by rfl) (by rfl) N.list (prg_2 (by rfl) N.range (pe_op op_sub (pe_op op_sub (pe_un un_neg (pv 2)) (pe_op op_mul pe_int (pv 3))) pe_int) (pe_op op_add (pe_op op_add (pv 2) (pe_op op_mul pe_int (pv 3))) pe_int))) (pe_lst (pa_cons (pv 4) (pa_cons (pe_op op_sub pe_int (pv 4)) pa_nil)))))
        (pss_cons (ps_set (i := 6) sc_rh.nd rfl (by walk_at "lv") (pe_k G h2 (by rfl) pass0 (pa_cons (pv 0) (pa_cons (pe_fld (pv 1) rfl) pa_nil))))
        (pss_cons (ps_for PassesOwn.never rfl (pi_list (pv 5)) (pg_name (i := 7) sc_rh.nd rfl (by walk_at "lv")) (pss_cons (ps_set (i := 8) sc_rh.nd rfl (by walk_at "lv") (pe_k Go h1 (by rfl) pass0 (pa_cons (pv 1) (pa_cons (pv 6) (pa_cons (pv 7) pa_nil)))))
        (pss_cons (ps_if (pt_cmpR (op_neD hr.units) (pv 8) (pe_k Gl_ h1 (by rfl) pass0 (pa_cons (pv 2) (pa_cons (pv 3) (pa_cons (pv 6) (pa_cons (pv 7) pa_nil))))) (nomark _)) (pss_one (ps_ret pe_bl)) pss_nil)
        (pss_one (ps_if (PW.pt (pw_and (pt_cmpR op_notN (pv 8) pe_non (nomark _)) (pw_and1 (pt_cmpR op_ne (pe_k Gn h1 (by rfl) pass0 (pa_cons (pv 1) (pa_cons (pe_ix ix_tup (pv 8) pe_int (fun _ _ => rfl)) (pa_cons (pe_ix ix_tup (pv 8) pe_int (fun _ _ => rfl)) pa_nil)))) (pv 7) (nomark _))))) (pss_one (ps_ret pe_bl)) pss_nil)))))
        (pss_cons (ps_set (i := 9) sc_rh.nd rfl (by walk_at "lv") (pe_k G h2 (by rfl) pass0 (pa_cons (pv 0) (pa_cons (pe_op op_pow pe_int pe_int) pa_nil))))
        (pss_cons (ps_for PassesOwn.never rfl (pi_list (pe_lst (pa_cons (pe_un un_neg pe_int) (pa_cons pe_int pa_nil)))) (pg_name (i := 10) sc_rh.nd rfl (by walk_at "lv")) (pss_cons (ps_set (i := 11) sc_rh.nd rfl (by walk_at "lv") (pe_k G h2 (by rfl) pass0 (pa_cons (pv 0) (pa_cons (pv 3) pa_nil))))
        (pss_one (ps_if (pt_cmpR op_ne (pe_k Gn h1 (by rfl) pass0 (pa_cons (pv 1) (pa_cons (pe_tup (pa_cons (pv 6) (pa_cons (pv 10) (pa_cons (pv 11) pa_nil)))) (pa_cons (pv 9) pa_nil)))) (pe_op op_mul (pv 10) (pe_op op_add (pe_op op_add (pe_op op_add (pv 2) pe_int) (pe_op op_mul (pv 3) (pv 9))) (pv 11))) (nomark _)) (pss_one (ps_ret pe_bl)) pss_nil))))
        (pss_one (ps_ret pe_bl)))))))), ?_⟩
    obtain ⟨dx0, a0, b0, l0, _, ir, _, _, ok⟩ := id ma
    have rp := ir.pos
    have bp := blockOf_pos (told_ok ok)
    generalize hk : blockOf (toldOf rs) = kk at *
    have ne0 : ∀ b : Bool, b = false → ∀ {p q : Prop}, q → if b = true then p else q := fun b hb p q hq => by rw [hb, if_neg Bool.false_ne_true]; exact hq
    refine ⟨_, rfl, _, _, rfl, rfl, _, rfl, _, _, rfl, rfl, ⟨by decide, by decide, by decide⟩, p, c, _, rfl, hh, ⟨by decide, log10⟩, fun fr H1 _ _ hh1 b1 => ⟨_, _, rfl, rfl, ?_⟩⟩
    refine ⟨_, rfl, _, rfl, _, rfl, _, _, rfl, rfl, .inl ⟨by omega, by omega⟩, _, _, rfl, rfl, _, _, rfl, rfl, _, rfl, _, rfl, _, _, rfl, rfl, .inl ⟨by omega, by omega⟩, _, _, rfl, rfl, _, _, rfl, rfl, _, _, rfl, rfl, ⟨by omega, by omega, by omega, by omega, by omega⟩, fun q1 n1 => ?_⟩
    have s1 := same_new (o := .lst (rgV (-r - 2 * kk - 1) (r + 2 * kk + 2))) (Same.refl H1) n1
    refine ⟨_, rfl, _, rfl, _, _, rfl, rfl, (by show 2 ≤ sizeLine; decide), fun q2 n2 => ?_⟩
    have s2 := same_new (o := .lst [V.int (r + 1 + fr), V.int (0 - (r + 1 + fr))]) s1 n2
    obtain ⟨ns, en, ln⟩ := rgV_ints (-r - 2 * kk - 1) (r + 2 * kk + 2)
    refine ⟨q1, q2, _, _, rfl, rfl, (by rw [upd_ne (ne_of_none upd_same n2)]; exact upd_same), upd_same, (by rw [en, List.length_map, ln, sizeLine_eq]; show _ + 2 ≤ _; omega), fun q3 n3 => ?_⟩
    have s3 := same_new (o := .lst (rgV (-r - 2 * kk - 1) (r + 2 * kk + 2) ++ [V.int (r + 1 + fr), V.int (0 - (r + 1 + fr))])) s2 n3
    have hh3 := hh1.same s3
    have b3 : But p H _ := b1.trans (But.of s3)
    have ma3 := ma.kt (Kt.hand hh b3)
    obtain ⟨dx, a, b, l, hp, ir, ia, ib, ok⟩ := id ma3
    rw [hk] at hp
    refine ⟨_, rfl, _, rfl, m, C, dx, _, _, rfl, hp, T.cl, T.n1, mf_stations, p, c, n, rfl, hh3, ⟨by omega, log_int (by omega) (by omega)⟩, fun st H4 st0 st1 hh4 b4 => ?_⟩
    have q3p : q3 ≠ p := ((hh1.same s2).ne n3).1.symm
    have e4 := b4 _ _ q3p upd_same
    have eints : rgV (-r - 2 * kk - 1) (r + 2 * kk + 2) ++ [V.int (r + 1 + fr), V.int (0 - (r + 1 + fr))] = (ns ++ [r + 1 + fr, 0 - (r + 1 + fr)]).map V.int := by rw [en, List.map_append]; rfl
    rw [eints] at e4
    refine ⟨_, rfl, q3, rfl, ⟨_, SqL.of e4⟩, for_it walk_list (fun i σ H5 => ∃ y z : Option V, σ = [some (.ref p), some (.ref m), some (.int r), some (.int kk), some (.int (r + 1 + fr)), some (.ref q3), some (.int st), y, z, none, none, none] ∧ Same H4 H5) ⟨_, _, rfl, Same.refl _⟩ (fun i σ H5 _ ⟨_, _, _, s5⟩ => SqL.of (s5 _ _ e4)) ?_ ?_⟩
    · rintro i v σ H6 H5 hi ⟨y, z, rfl, s5⟩ ⟨rfl, e6⟩
      obtain ⟨x, _, rfl⟩ := int_at e6
      have ma5 := ma3.kt ((Kt.hand hh3 b4).trans (Kt.of s5))
      refine ⟨_, rfl, _, rfl, _, rfl, m, st, x, n, r, ss, rs, rfl, ma5, fun hx => ?_, fun hx q t H7 s7 eq et => ?_⟩
      · refine ⟨_, rfl, _, rfl, _, rfl, _, rfl, _, rfl, r, kk, st, x, rfl, ⟨bp.1, by omega⟩, fun _ => ?_, fun hx2 => absurd hx2 (by omega)⟩
        refine ⟨.none, .none, .non, .non, by decide +kernel, by decide +kernel, _, rfl, ne0 _ (by decide +kernel) ?_⟩
        refine ⟨_, rfl, rfl, _, rfl, ne0 _ (by simp) ⟨_, _, rfl, s5⟩⟩
      · rw [hk] at eq et
        refine ⟨_, rfl, _, rfl, _, rfl, _, rfl, _, rfl, r, kk, st, x, rfl, ⟨bp.1, by omega⟩, fun hx2 => absurd hx (by omega), fun _ q2 t2 H8 s8 eq2 et2 => ?_⟩
        have sh := shp_room st x r kk
        refine ⟨roomD st x r kk, roomD st x r kk, room_dp (s8 _ _ eq) (s8 _ _ et), room_dp eq2 et2, sh, sh, _, rfl, ne0 _ (by rw [shp_refl sh]; rfl) ?_⟩
        refine ⟨_, rfl, rfl, _, rfl, iteT ?_⟩
        refine ⟨_, rfl, _, rfl, q, _, _, _, rfl, rfl, SqT.of (s8 _ _ eq), rfl, _, rfl, q, _, _, _, rfl, rfl, SqT.of (s8 _ _ eq), rfl, ?_⟩
        refine ⟨m, t, st, sgn x, _, _, n, r, ss, rs, rfl, ma5.kt (Kt.of (s7.trans s8)), s8 _ _ et, sgn_small x, _, rfl, rfl, _, rfl, ?_⟩
        rw [hk]
        rw [room_back hx (by omega)]
        exact ne0 _ (by simp) ⟨_, _, rfl, s5.trans (s7.trans s8)⟩
    · rintro σ H5 ⟨y, z, rfl, s5⟩
      have hh5 := hh4.same s5
      refine ⟨_, rfl, _, _, rfl, rfl, ⟨by decide, by decide, by decide⟩, p, c, _, rfl, hh5, ⟨by decide, by decide +kernel⟩, fun hg H6 _ _ hh6 b6 => ?_⟩
      refine ⟨_, rfl, (by show 2 ≤ sizeLine; decide), fun q5 n5 => ?_⟩
      have s7 := same_new (o := .lst [V.int (-1), V.int 1]) (Same.refl H6) n5
      have b7 : But p H (upd H6 q5 (.lst [V.int (-1), V.int 1])) := (((b3.trans b4).trans (But.of s5)).trans b6).trans (But.of s7)
      have q5p : q5 ≠ p := (hh6.ne n5).1.symm
      refine ⟨q5, rfl, ⟨_, SqL.of upd_same⟩, for_it walk_list (fun i σ H8 => ∃ y z u v : Option V, σ = [some (.ref p), some (.ref m), some (.int r), some (.int kk), some (.int (r + 1 + fr)), some (.ref q3), some (.int st), y, z, some (.int hg), u, v] ∧ HandC H8 p c ∧ But p H H8 ∧ H8 q5 = some (.lst [V.int (-1), V.int 1])) ⟨_, _, _, _, rfl, hh6.same s7, b7, upd_same⟩ (fun i σ H8 _ ⟨_, _, _, _, _, _, _, e⟩ => SqL.of e) ?_ ?_⟩
      · rintro i v σ H9 H8 hi ⟨y, z, u, uu, rfl, hh8, b8, e8⟩ ⟨rfl, e6⟩
        obtain ⟨sd, rfl, sdb⟩ : ∃ sd : Int, v = .int sd ∧ -(2 ^ 64) < sd ∧ sd < 2 ^ 64 := by
          match i, e6 with
          | 0, e6 => cases e6; exact ⟨_, rfl, by decide, by decide⟩
          | 1, e6 => cases e6; exact ⟨_, rfl, by decide, by decide⟩
        refine ⟨_, rfl, _, rfl, p, c, kk, rfl, hh8, ⟨bp.1, log_int (by omega) (by omega)⟩, fun re H10 _ _ hh10 b10 => ?_⟩
        have ma10 := ma.kt (Kt.hand hh (b8.trans b10))
        refine ⟨_, rfl, _, rfl, _, rfl, _, rfl, (by show 3 ≤ sizeLine; decide), fun t ht => ⟨_, rfl, ?_⟩⟩
        have s11 := same_new (o := .tup [V.int st, V.int sd, V.int re]) (Same.refl H10) ht
        refine ⟨m, t, st, sd, re, hg, n, r, ss, rs, rfl, ma10.kt (Kt.of s11), upd_same, sdb, ?_⟩
        rw [hk]
        refine ⟨_, rfl, _, rfl, _, _, rfl, rfl, _, rfl, _, rfl, _, _, rfl, rfl, .inl ⟨by omega, by omega⟩, _, _, rfl, rfl, _, rfl, _, _, rfl, rfl, _, _, rfl, rfl, .inl sdb, rfl, _, rfl, ne0 _ (by simp) ?_⟩
        exact ⟨_, _, _, _, rfl, hh10.same s11, (b8.trans b10).trans (But.of s11), s11 _ _ (b10 _ _ q5p e8)⟩
      · rintro σ H8 ⟨y, z, u, uu, rfl, hh8, b8, e8⟩
        exact k H8 hh8 b8
end
end My
set_option Elab.async false
set_option linter.all false
set_option maxRecDepth 100000
set_option maxHeartbeats 8000000
namespace My
open PySem PySem.Spec PyProof.Rows L2
local macro_rules | `(tactic| walk_at "lv") => `(tactic| first | exact Or.inl rfl | exact Or.inr rfl)
theorem num_cases (m : Mv) (n : Int) : m.num n = .non ∨ ∃ z, m.num n = .int z := by
  cases m with
  | stay => exact .inr ⟨_, rfl⟩
  | deed L => exact .inr ⟨_, rfl⟩
  | so T =>
    show (if T.pass n = true then V.int n else V.non) = .non ∨ ∃ z, (if T.pass n = true then V.int n else V.non) = .int z
    split
    · exact .inr ⟨_, rfl⟩
    · exact .inl rfl
  | not T =>
    show (if T.pass n = true then V.non else V.int n) = .non ∨ ∃ z, (if T.pass n = true then V.non else V.int n) = .int z
    split
    · exact .inl rfl
    · exact .inr ⟨_, rfl⟩
theorem tgAll_tdv {p : Addr} {H : Hp} (t : Td) : TgAll p H (tdVs t) (match t with | .inl L => L.ds | .inr T => T.ds) := by
  have sh : ∀ z : Str, z = "set" ∨ z = "add" ∨ z = "turn" ∨ z = "mod" ∨ z = "below" ∨ z = "is" ∨ z = "rest" → SeqAt.shaped (.str z) = true := fun z h => by
    rcases h with rfl | rfl | rfl | rfl | rfl | rfl | rfl <;> decide +kernel
  rcases t with L | T
  · cases L with
    | set v => exact .cons (.str _ (sh _ (by simp))) (.cons (.int _) .nil)
    | add v => exact .cons (.str _ (sh _ (by simp))) (.cons (.int _) .nil)
    | turn => exact .cons (.str _ (sh _ (by simp))) .nil
    | mod m => exact .cons (.str _ (sh _ (by simp))) (.cons (.int _) .nil)
  · cases T with
    | below v => exact .cons (.str _ (sh _ (by simp))) (.cons (.int _) .nil)
    | is v => exact .cons (.str _ (sh _ (by simp))) (.cons (.int _) .nil)
    | rest m r => exact .cons (.str _ (sh _ (by simp))) (.cons (.int _) (.cons (.int _) .nil))
def tdDs : Td → List PyData
  | .inl L => L.ds
  | .inr T => T.ds
theorem shp_tds (t : Td) : SeqAt.shaped (.list (tdDs t)) = true := by
  rcases t with L | T
  · cases L <;> kernel_rfl
  · cases T <;> kernel_rfl
theorem tgAll_tds {p : Addr} {H : Hp} (t : Td) : TgAll p H (tdVs t) (tdDs t) := by
  have := tgAll_tdv (p := p) (H := H) t
  cases t <;> exact this
/-- the row of a move that tells t, with its word -/
theorem mv_said {H : Hp} {a : Addr} {m : Mv} (h : MvR H a m) : (m = .stay ∧ H a = some (.tup [.str "stay"])) ∨ ∃ z l t, H a = some (.tup [.str z, .ref l]) ∧ H l = some (.tup (tdVs t)) ∧ SeqAt.shaped (.str z) = true ∧ SeqAt.shaped (.list [.str z, .list (tdDs t)]) = true ∧ MvT m (.list [.str z, .list (tdDs t)]) := by
  cases m with
  | stay => exact .inl ⟨rfl, h⟩
  | deed L => obtain ⟨l, h1, h2⟩ := h; exact .inr ⟨_, l, .inl L, h1, h2, by decide +kernel, by cases L <;> kernel_rfl, _, rfl, rfl⟩
  | so T => obtain ⟨l, h1, h2⟩ := h; exact .inr ⟨_, l, .inr T, h1, h2, by decide +kernel, by cases T <;> kernel_rfl, _, rfl, rfl⟩
  | not T => obtain ⟨l, h1, h2⟩ := h; exact .inr ⟨_, l, .inr T, h1, h2, by decide +kernel, by cases T <;> kernel_rfl, _, rfl, rfl⟩
theorem shp_good (m : Mv) : SeqAt.shaped (.list [.str "good", m.d]) = true := by
  cases m with
  | stay => kernel_rfl
  | deed L => cases L <;> kernel_rfl
  | so T => cases T <;> kernel_rfl
  | not T => cases T <;> kernel_rfl
section
variable {P : Program} {w : World} {K : PySem.W.Frag} {mg : Str → Option Value} {base : Heap}
def spMh : Sp := fun vs H Q _ => ∃ (p c a : Addr) (xs : List V) (rs : List Ar), vs = [.ref p, .ref a] ∧ HandC H p c ∧ H a = some (.lst xs) ∧ a ≠ p ∧ ImAll H xs (rs.map Ar.d) ∧ (∀ r ∈ rs, r.m.Ok) ∧ ∀ H', HandC H' p c → But p H H' → Q (.bl true) H'
abbrev s_mh : Stmt := top 61
abbrev N_mh : List Str := ["_law_hand_here", "_law_arrows", "_law_arrow", "_law_turn", "_law_number", "_law_parts"]
theorem sc_mh : FnScope N_mh ["_law_hand_here", "_law_arrows"] (defScope s_mh) := ⟨rfl, rfl, rfl, by decide +kernel, rfl, by decide +kernel, by decide +kernel⟩
theorem kp_mh (F : At K mg "_law_moves_hold" s_mh) (N : Nb mg) (G : Keeps CX0 P w K mg base "_law_draw" 2 ["_law_hand_here", "_law_many"] spDraw) (Gp : Keeps CX0 P w K mg base "_law_pick" 3 ["_law_hand_here", "_law_things"] spPick) (Gv : Keeps CX0 P w K mg base "_law_value" 3 ["_law_hand_here"] spVal)
    (Gm : Keeps CX0 P w K mg base "move_number" 2 ["move", "number"] spMn) (Gd : Keeps CX0 P w K mg base "_law_moved" 2 ["_law_move_here", "_law_number"] spMn) (Gt : Keeps CX0 P w K mg base "_law_move_told" 6 ["_law_move_here"] spLmt) :
    Keeps CX0 P w K mg base "_law_moves_hold" 7 ["_law_hand_here", "_law_arrows"] spMh := by
  refine keeps_of F sc_mh (fun _ _ _ _ _ _ us hl => match us, hl with | [_, _], _ => rfl) (fun vs H Q E h => ?_) (fun f cdv A outer s H vs Q E hr h => ?_)
  · obtain ⟨p, c, a, xs, rs, rfl, _⟩ := h
    rfl
  · obtain ⟨p, c, a, xs, rs, rfl, hh, ha, ap, im, ok, k⟩ := h
    have h2 : Room 2 (A.deeper (envOfC "_law_moves_hold" (defScope s_mh) s.heap.objs.size f cdv)) := hr.mono (by decide)
    have h3 : Room 3 (A.deeper (envOfC "_law_moves_hold" (defScope s_mh) s.heap.objs.size f cdv)) := hr.mono (by decide)
    refine ⟨_, (pss_cons (ps_for PassesOwn.never rfl (pi_list (pv 1)) (pg_name (i := 2) sc_mh.nd rfl (by walk_at "lv")) (pss_cons (ps_for PassesOwn.never rfl (pi_range1 (by rfl) N.range (pa_cons pe_int pa_nil)) (pg_name (i := 3) sc_mh.nd rfl (by walk_at "lv")) (pss_cons (ps_set (i := 4) sc_mh.nd rfl (by walk_at "lv") (pe_k Gp h3 (by rfl) pass0 (pa_cons (pv 0) (pa_cons (pe_lst (pa_cons (pe_k Gv h3 (by rfl) pass0 (pa_cons (pv 0) pa_nil)) (pa_cons (pe_op op_sub pe_int (pe_k G h2 (by rfl) pass0 (pa_cons (pv 0) (pa_cons (pe_op op_pow pe_int pe_int) pa_nil)))) (pa_cons (pe_k G h2 (by rfl) pass0 (pa_cons (pv 0) (pa_cons (pe_op op_pow pe_int pe_int) pa_nil))) pa_nil)))) pa_nil))))
        (pss_one (ps_if (pt_cmpR op_ne (pe_k Gm h2 (by rfl) pass0 (pa_cons (pe_ix ix_tup (pv 2) pe_int (fun _ _ => rfl)) (pa_cons (pv 4) pa_nil))) (pe_k Gd h2 (by rfl) pass0 (pa_cons (pe_ix ix_tup (pv 2) pe_int (fun _ _ => rfl)) (pa_cons (pv 4) pa_nil))) (nomark _)) (pss_one (ps_ret pe_bl)) pss_nil))))
        (C8.pss_cut (ps_set (i := 5) sc_mh.nd rfl (by walk_at "lv") (pe_ifExp (pt_cmpR op_eq (pe_callB call_len_seq (by rfl) N.len (by decide +kernel) (pa_cons (pe_ix ix_tup (pv 2) pe_int (fun _ _ => rfl)) pa_nil)) pe_int (nomark _)) (pe_lst (pa_cons (pe_callTy call_list_of (by rfl) N.list (by decide +kernel) (pa_cons (pe_ix ix_tup (pe_ix ix_tup (pv 2) pe_int (fun _ _ => rfl)) pe_int (fun _ _ => rfl)) pa_nil)) pa_nil)) (pe_lst pa_nil)))
        (pss_one (ps_if (pt_cmpR (op_neD hr.units) (pe_k Gt hr (by rfl) pass0 (pa_cons (pe_op op_cat (pe_lst (pa_cons (pe_ix ix_tup (pe_ix ix_tup (pv 2) pe_int (fun _ _ => rfl)) pe_int (fun _ _ => rfl)) pa_nil)) (pv 5)) pa_nil)) (pe_lst (pa_cons pe_str (pa_cons (pe_ix ix_tup (pv 2) pe_int (fun _ _ => rfl)) pa_nil))) (nomark _)) (pss_one (ps_ret pe_bl)) pss_nil)))))
        (pss_one (ps_ret pe_bl))), ?_⟩
    have ne0 : ∀ b : Bool, b = false → ∀ {p q : Prop}, q → if b = true then p else q := fun b hb p q hq => by rw [hb, if_neg Bool.false_ne_true]; exact hq
    have log20 : ((10 : Int) ^ 20).natAbs.log2 < 9000 := by decide +kernel
    refine ⟨_, rfl, a, rfl, ⟨_, SqL.of ha⟩, for_it walk_list (fun i σ H2 => ∃ x2 x3 x4 x5 : Option V, σ = [some (.ref p), some (.ref a), x2, x3, x4, x5] ∧ HandC H2 p c ∧ But p H H2) ⟨_, _, _, _, rfl, hh, But.refl p H⟩ (fun i σ H2 _ ⟨_, _, _, _, _, _, b2⟩ => SqL.of (b2 _ _ ap ha)) ?_ ?_⟩
    · rintro i v σ H3 H2 hi ⟨x2, x3, x4, x5, rfl, hh2, b2⟩ ⟨rfl, e4⟩
      obtain ⟨dd, e5, iv⟩ := im.get e4
      rw [List.getElem?_map] at e5
      obtain ⟨r, er, rfl⟩ := Option.map_eq_some_iff.mp e5
      have mok := ok r (List.mem_of_getElem? er)
      obtain ⟨q, m, rfl, eq, mr⟩ := iv.ar
      have qp : q ≠ p := hh.nt eq
      have mrB : ∀ {H' : Hp}, But p H H' → MvR H' m r.m := fun {H'} b => by
        obtain ⟨_, em, mr'⟩ := Im.mv (Im.kt (Kt.hand hh b) _ _ (im_mv mr))
        cases em
        exact mr'
      refine ⟨4, rfl, by decide, by decide, for_it walk_range (fun j σ H4 => ∃ x3 x4 : Option V, σ = [some (.ref p), some (.ref a), some (.ref q), x3, x4, x5] ∧ HandC H4 p c ∧ But p H H4) ⟨_, _, rfl, hh2, b2⟩ (fun j σ H4 _ _ => trivial) ?_ ?_⟩
      · rintro j v σ H5 H4 hj ⟨x3, x4, rfl, hh4, b4⟩ ⟨rfl, rfl⟩
        refine ⟨_, rfl, _, rfl, p, c, rfl, hh4, fun v1 H6 _ _ hh6 b6 => ?_⟩
        refine ⟨_, rfl, _, _, rfl, rfl, ⟨by decide, by decide, by decide⟩, p, c, _, rfl, hh6, ⟨by decide, log20⟩, fun v2 H7 _ _ hh7 b7 => ⟨_, _, rfl, rfl, ?_⟩⟩
        refine ⟨_, rfl, _, _, rfl, rfl, ⟨by decide, by decide, by decide⟩, p, c, _, rfl, hh7, ⟨by decide, log20⟩, fun v3 H8 _ _ hh8 b8 => ⟨(by show 3 ≤ sizeLine; decide), fun l nl => ?_⟩⟩
        have s9 := same_new (o := .lst [V.int v1, V.int (0 - v2), V.int v3]) (Same.refl H8) nl
        refine ⟨p, c, l, _, rfl, hh8.same s9, upd_same, (hh8.ne nl).1.symm, ⟨Nat.le_of_ble_eq_true rfl, Nat.le_of_ble_eq_true rfl⟩, fun jj v H10 hv hh10 b10 => ?_⟩
        obtain ⟨n, rfl⟩ : ∃ n, v = .int n := by
          match jj, hv with
          | 0, hv => cases hv; exact ⟨_, rfl⟩
          | 1, hv => cases hv; exact ⟨_, rfl⟩
          | 2, hv => cases hv; exact ⟨_, rfl⟩
        have b11 : But p H H10 := ((((b4.trans b6).trans b7).trans b8).trans (But.of s9)).trans b10
        have eq11 := b11 _ _ qp eq
        refine ⟨_, rfl, q, _, _, _, rfl, rfl, SqT.of eq11, rfl, _, rfl, m, r.m, n, rfl, mrB b11, mok, ?_⟩
        refine ⟨_, rfl, q, _, _, _, rfl, rfl, SqT.of eq11, rfl, _, rfl, m, r.m, n, rfl, mrB b11, mok, ?_⟩
        rcases num_cases r.m n with e | ⟨z, e⟩
        · rw [e]
          exact ⟨rfl, _, rfl, ne0 _ (by simp) ⟨_, _, rfl, hh10, b11⟩⟩
        · rw [e]
          exact ⟨rfl, _, rfl, ne0 _ (by simp) ⟨_, _, rfl, hh10, b11⟩⟩
      · rintro σ H4 ⟨x3, x4, rfl, hh4, b4⟩
        have eq4 := b4 _ _ qp eq
        have fin : ∀ {H9 : Hp} {t : Addr} {g : Addr}, Same H4 H9 → H9 t = some (.lst [.str "good", .ref g]) → Im H9 (.ref g) r.m.d → ∀ l, H9 l = none → ∃ d e, Dp K (upd H9 l (.lst [.str "good", .ref m])) (.ref t) d ∧ Dp K (upd H9 l (.lst [.str "good", .ref m])) (.ref l) e ∧ SeqAt.shaped d = true ∧ SeqAt.shaped e = true ∧ (!PyData.eqv d e) = false := fun {H9 t g} s9 et ig l nl => by
          have s10 := same_new (o := .lst [V.str "good", V.ref m]) (Same.refl H9) nl
          have sh := shp_good r.m
          refine ⟨.list [.str "good", r.m.d], .list [.str "good", r.m.d], .lst (SqL.of (s10 _ _ et)) (.cons (.str _) (.cons (Im.dp _ _ (Im.kt (Kt.of s10) _ _ ig)) .nil)), .lst (SqL.of upd_same) (.cons (.str _) (.cons (Im.dp _ _ (im_mv ?_)) .nil)), sh, sh, by rw [shp_refl sh]; rfl⟩
          obtain ⟨_, em, mr'⟩ := Im.mv (Im.kt (Kt.of (s9.trans s10)) _ _ (im_mv (mrB b4)))
          cases em
          exact mr'
        rcases mv_said (mrB b4) with ⟨e1, e2⟩ | ⟨z, l, t, e1, e2, shz, shd, mt⟩
        · refine ⟨fun σ' H' => ∃ l5, σ' = [some (.ref p), some (.ref a), some (.ref q), x3, x4, some (.ref l5)] ∧ Same H4 H' ∧ H' l5 = some (.lst []), ?_, ?_⟩
          · refine ⟨_, rfl, q, _, _, _, rfl, rfl, SqT.of eq4, rfl, m, _, rfl, .inr (SqT.of e2), rfl, _, rfl, ?_⟩
            rw [vint]
            exact iteF ⟨(by show 0 ≤ sizeLine; decide), fun l5 n5 => ⟨l5, rfl, same_new (Same.refl H4) n5, upd_same⟩⟩
          · rintro _ H5 ⟨l5, rfl, s5, e5⟩
            refine ⟨_, rfl, q, _, _, _, rfl, rfl, SqT.of (s5 _ _ eq4), rfl, m, _, _, _, rfl, rfl, SqT.of (s5 _ _ e2), rfl, (by show 1 ≤ sizeLine; decide), fun l6 n6 => ?_⟩
            have s6 := same_new (o := .lst [V.str "stay"]) s5 n6
            have e56 : upd H5 l6 (.lst [V.str "stay"]) l5 = some (.lst []) := by rw [upd_ne (ne_of_none e5 n6)]; exact e5
            refine ⟨_, rfl, l6, l5, _, _, rfl, rfl, upd_same, e56, (by show 1 + 0 ≤ sizeLine; decide), fun l7 n7 => ?_⟩
            have s7 := same_new (o := .lst [V.str "stay"]) s6 n7
            have hh7 := hh4.same s6
            have mt : MvT r.m (.list [.str "stay"]) := by rw [e1]; exact (rfl : rowsOf (.list [.str "stay"]) = some [.str "stay"])
            refine ⟨p, .ref l7, .list [.str "stay"], rfl, .lst upd_same (hh7.ne n7).1.symm (.cons (.str _ (by decide +kernel)) .nil) (by decide +kernel), fun ef => absurd (ef.symm.trans (fmT_of mok mt)) Bool.false_ne_true, fun _ t g H9 s9 et ig => ?_⟩
            rw [mvOf_of mt] at ig
            refine ⟨_, rfl, q, _, _, _, rfl, rfl, SqT.of ((s7.trans s9) _ _ eq4), rfl, (by show 2 ≤ sizeLine; decide), fun l8 n8 => ?_⟩
            obtain ⟨d, e, d1, d2, d3, d4, d5⟩ := fin (s7.trans s9) et ig l8 n8
            have s10 := same_new (o := .lst [V.str "good", V.ref m]) (s7.trans s9) n8
            exact ⟨d, e, d1, d2, d3, d4, _, rfl, ne0 _ d5 ⟨_, _, _, _, rfl, hh4.same s10, b4.trans (But.of s10)⟩⟩
        · refine ⟨fun σ' H' => ∃ l5 l3, σ' = [some (.ref p), some (.ref a), some (.ref q), x3, x4, some (.ref l5)] ∧ Same H4 H' ∧ H' l5 = some (.lst [.ref l3]) ∧ H' l3 = some (.lst (tdVs t)) ∧ l3 ≠ p, ?_, ?_⟩
          · refine ⟨_, rfl, q, _, _, _, rfl, rfl, SqT.of eq4, rfl, m, _, rfl, .inr (SqT.of e1), rfl, _, rfl, ?_⟩
            rw [vint]
            refine iteT ⟨_, rfl, q, _, _, _, rfl, rfl, SqT.of eq4, rfl, m, _, _, _, rfl, rfl, SqT.of e1, rfl, l, _, rfl, .inr (SqT.of e2), fun l3 n3 => ⟨(by show 1 ≤ sizeLine; decide), fun l5 n5 => ?_⟩⟩
            exact ⟨l5, l3, rfl, same_new (same_new (Same.refl H4) n3) n5, upd_same, by rw [upd_ne (ne_of_none upd_same n5)]; exact upd_same, (hh4.ne n3).1.symm⟩
          · rintro _ H5 ⟨l5, l3, rfl, s5, e5, e3, l3p⟩
            refine ⟨_, rfl, q, _, _, _, rfl, rfl, SqT.of (s5 _ _ eq4), rfl, m, _, _, _, rfl, rfl, SqT.of (s5 _ _ e1), rfl, (by show 1 ≤ sizeLine; decide), fun l6 n6 => ?_⟩
            have s6 := same_new (o := .lst [V.str z]) s5 n6
            have e56 : upd H5 l6 (.lst [V.str z]) l5 = some (.lst [.ref l3]) := by rw [upd_ne (ne_of_none e5 n6)]; exact e5
            have e36 : upd H5 l6 (.lst [V.str z]) l3 = some (.lst (tdVs t)) := by rw [upd_ne (ne_of_none e3 n6)]; exact e3
            refine ⟨_, rfl, l6, l5, _, _, rfl, rfl, upd_same, e56, (by show 1 + 1 ≤ sizeLine; decide), fun l7 n7 => ?_⟩
            have s7 := same_new (o := .lst ([V.str z] ++ [V.ref l3])) s6 n7
            have hh7 := hh4.same s6
            have e37 : upd (upd H5 l6 (.lst [V.str z])) l7 (.lst ([V.str z] ++ [V.ref l3])) l3 = some (.lst (tdVs t)) := by rw [upd_ne (ne_of_none e36 n7)]; exact e36
            refine ⟨p, .ref l7, .list [.str z, .list (tdDs t)], rfl, .lst upd_same (hh7.ne n7).1.symm (.cons (.str _ shz) (.cons (.lst e37 l3p (tgAll_tds t) (shp_tds t)) .nil)) shd, fun ef => absurd (ef.symm.trans (fmT_of mok mt)) Bool.false_ne_true, fun _ t g H9 s9 et ig => ?_⟩
            rw [mvOf_of mt] at ig
            refine ⟨_, rfl, q, _, _, _, rfl, rfl, SqT.of ((s7.trans s9) _ _ eq4), rfl, (by show 2 ≤ sizeLine; decide), fun l8 n8 => ?_⟩
            obtain ⟨d, e, d1, d2, d3, d4, d5⟩ := fin (s7.trans s9) et ig l8 n8
            have s10 := same_new (o := .lst [V.str "good", V.ref m]) (s7.trans s9) n8
            exact ⟨d, e, d1, d2, d3, d4, _, rfl, ne0 _ d5 ⟨_, _, _, _, rfl, hh4.same s10, b4.trans (But.of s10)⟩⟩
    · rintro σ H2 ⟨x2, x3, x4, x5, rfl, hh2, b2⟩
      exact k H2 hh2 b2
end
end My
set_option Elab.async false
set_option linter.all false
set_option maxRecDepth 100000
set_option maxHeartbeats 8000000
namespace My
open PySem PySem.Spec PyProof.Rows L2
local macro_rules | `(tactic| walk_at "lv") => `(tactic| first | exact Or.inl rfl | exact Or.inr rfl)
/-- a row of odd things so far -/
structure Od (p c : Addr) (H0 : Hp) (R : PyData → Prop) (H : Hp) (xs : List V) : Prop where
  b : But p H0 H
  h : HandC H p c
  x : ∀ v ∈ xs, ∃ d, Tg p H v d ∧ R d
section
variable {p c : Addr} {H0 H H' : Hp} {R : PyData → Prop} {xs : List V}
theorem Od.but (a : Od p c H0 R H xs) (b : But p H H') (h : HandC H' p c) : Od p c H0 R H' xs :=
  ⟨a.b.trans b, h, fun v hv => by obtain ⟨d, t, r⟩ := a.x v hv; exact ⟨d, Tg.but b _ _ t, r⟩⟩
theorem Od.alloc (a : Od p c H0 R H xs) {t : Addr} {o : HO} (h : H t = none) : Od p c H0 R (upd H t o) xs := a.but (But.of (same_new (Same.refl H) h)) (a.h.same (same_new (Same.refl H) h))
theorem Od.add (a : Od p c H0 R H xs) {x : V} {d : PyData} (t : Tg p H x d) (r : R d) : Od p c H0 R H (xs ++ [x]) :=
  ⟨a.b, a.h, fun v hv => by
    rcases List.mem_append.mp hv with hv | hv
    · exact a.x v hv
    · rw [List.mem_singleton.mp hv]; exact ⟨d, t, r⟩⟩
theorem Od.nil (h : HandC H p c) : Od p c H R H [] := ⟨But.refl p H, h, fun v hv => by cases hv⟩
/-- one of them is picked -/
theorem Od.pick {l : Addr} {Q : VK} (a : Od p c H0 R H xs) (hl : H l = none) (ln : 0 < xs.length ∧ xs.length ≤ 100) (k : ∀ x d H', Tg p H' x d → R d → HandC H' p c → But p H0 H' → Q x H') :
    ∃ (p' c' t : Addr) (ys : List V), ([V.ref p, V.ref l] : List V) = [.ref p', .ref t] ∧ HandC (upd H l (.lst xs)) p' c' ∧ upd H l (.lst xs) t = some (.lst ys) ∧ t ≠ p' ∧ (0 < ys.length ∧ ys.length ≤ 100) ∧ ∀ (i : Nat) (v : V) H', ys[i]? = some v → HandC H' p' c' → But p' (upd H l (.lst xs)) H' → Q v H' := by
  have s1 := same_new (o := .lst xs) (Same.refl H) hl
  refine ⟨p, c, l, xs, rfl, a.h.same s1, upd_same, (a.h.ne hl).1.symm, ln, fun i v H' hv hh' b' => ?_⟩
  obtain ⟨d, t, r⟩ := a.x v (List.mem_of_getElem? hv)
  have b1 : But p H H' := (But.of s1).trans b'
  exact k v d H' (Tg.but b1 _ _ t) r hh' (a.b.trans b1)
end
section
variable {P : Program} {w : World} {K : PySem.W.Frag} {mg : Str → Option Value} {base : Heap}
/-! ### _law_odd_move -/
abbrev OddM (d : PyData) : Prop := fmT d = false ∧ Small 20 d
def spOdM : Sp := fun vs H Q _ => ∃ (p c : Addr), vs = [.ref p] ∧ HandC H p c ∧ ∀ x d H', Tg p H' x d → OddM d → HandC H' p c → But p H H' → Q x H'
abbrev s_om : Stmt := top 62
abbrev N_om : List Str := ["_law_hand_here", "_law_word"]
theorem sc_om : FnScope N_om ["_law_hand_here"] (defScope s_om) := ⟨rfl, rfl, rfl, by decide +kernel, rfl, by decide +kernel, by decide +kernel⟩
theorem kp_om (F : At K mg "_law_odd_move" s_om) (Gp : Keeps CX0 P w K mg base "_law_pick" 3 ["_law_hand_here", "_law_things"] spPick) : Keeps CX0 P w K mg base "_law_odd_move" 4 ["_law_hand_here"] spOdM := by
  refine keeps_of F sc_om (fun _ _ _ _ _ _ us hl => match us, hl with | [_], _ => rfl) (fun vs H Q E h => ?_) (fun f cdv A outer s H vs Q E hr h => ?_)
  · obtain ⟨p, c, rfl, _⟩ := h
    rfl
  · obtain ⟨p, c, rfl, hh, k⟩ := h
    refine ⟨_, (pss_cons (ps_set (i := 1) sc_om.nd rfl (by walk_at "lv") (pe_k Gp hr (by rfl) pass0 (pa_cons (pv 0) (pa_cons (pe_lst (pa_cons pe_str (pa_cons pe_str (pa_cons pe_str pa_nil)))) pa_nil))))
        (pss_one (ps_ret (pe_k Gp hr (by rfl) pass0 (pa_cons (pv 0) (pa_cons (pe_lst (pa_cons (pe_tup (pa_cons (pv 1) pa_nil)) (pa_cons (pe_tup (pa_cons pe_str (pa_cons pe_int pa_nil))) (pa_cons (pe_tup (pa_cons pe_str (pa_cons (pe_tup (pa_cons pe_str (pa_cons pe_int pa_nil))) pa_nil))) (pa_cons (pe_tup (pa_cons pe_str (pa_cons (pe_tup (pa_cons pe_str (pa_cons pe_int pa_nil))) pa_nil))) (pa_cons (pe_tup (pa_cons pe_str (pa_cons (pe_tup (pa_cons pe_str pa_nil)) pa_nil))) (pa_cons pe_non (pa_cons (pe_tup pa_nil) (pa_cons (pe_tup (pa_cons (pv 1) (pa_cons pe_non pa_nil))) (pa_cons (pe_tup (pa_cons (pv 1) (pa_cons (pe_tup (pa_cons pe_str (pa_cons pe_bl pa_nil))) pa_nil))) (pa_cons (pe_tup (pa_cons (pv 1) (pa_cons (pe_tup (pa_cons pe_str (pa_cons pe_int pa_nil))) pa_nil))) (pa_cons (pe_tup (pa_cons pe_str (pa_cons (pe_tup (pa_cons pe_str (pa_cons pe_int pa_nil))) pa_nil))) (pa_cons pe_str (pa_cons (pe_tup (pa_cons pe_str (pa_cons pe_int pa_nil))) (pa_cons (pe_tup (pa_cons (pv 1) (pa_cons (pe_tup (pa_cons pe_str (pa_cons pe_int (pa_cons pe_int pa_nil)))) pa_nil))) (pa_cons (pe_tup (pa_cons pe_str (pa_cons (pe_tup (pa_cons pe_str (pa_cons pe_int pa_nil))) (pa_cons pe_int pa_nil)))) (pa_cons (pe_lst (pa_cons pe_int pa_nil)) (pa_cons pe_int pa_nil)))))))))))))))))) pa_nil)))))), ?_⟩
    refine ⟨_, rfl, (by show 3 ≤ sizeLine; decide), fun l hl => ?_⟩
    have s1 := same_new (o := .lst [V.str "deed", V.str "so", V.str "not"]) (Same.refl H) hl
    refine ⟨p, c, l, _, rfl, hh.same s1, upd_same, (hh.ne hl).1.symm, ⟨by decide, by decide⟩, fun i v H1 hv hh1 b1 => ?_⟩
    obtain ⟨wd, rfl, hw⟩ : ∃ wd : Str, v = .str wd ∧ (wd = "deed" ∨ wd = "so" ∨ wd = "not") := by
      match i, hv with
      | 0, hv => cases hv; exact ⟨_, rfl, .inl rfl⟩
      | 1, hv => cases hv; exact ⟨_, rfl, .inr (.inl rfl)⟩
      | 2, hv => cases hv; exact ⟨_, rfl, .inr (.inr rfl)⟩
    have shw : SeqAt.shaped (.str wd) = true := by rcases hw with rfl | rfl | rfl <;> decide +kernel
    have a0 : Od p c H1 OddM H1 [] := Od.nil hh1
    refine ⟨_, rfl, ?_⟩
    refine ⟨_, rfl, (by show 1 ≤ sizeLine; decide), fun t1 ht1 => ?_⟩
    have bt1 := a0.alloc (o := .tup [V.str wd]) ht1
    have at1 : Od p c H1 OddM _ [.ref t1] := bt1.add (d := .tuple [.str wd]) (.tup upd_same (a0.h.ne ht1).1.symm (.cons (.str _ shw) .nil) (by rcases hw with rfl | rfl | rfl <;> decide +kernel)) ⟨by rcases hw with rfl | rfl | rfl <;> decide +kernel, by rcases hw with rfl | rfl | rfl <;> exact ⟨by decide +kernel, by decide +kernel⟩⟩
    refine ⟨(by show 2 ≤ sizeLine; decide), fun t2 ht2 => ?_⟩
    have bt2 := at1.alloc (o := .tup [V.str "stay", V.int 0]) ht2
    have at2 : Od p c H1 OddM _ [.ref t1, .ref t2] := bt2.add (d := .tuple [.str "stay", .int 0]) (.tup upd_same (at1.h.ne ht2).1.symm (.cons (.str _ (by decide +kernel)) (.cons (.int _) .nil)) (by decide +kernel)) ⟨by decide +kernel, ⟨by decide +kernel, by decide +kernel⟩⟩
    refine ⟨(by show 2 ≤ sizeLine; decide), fun t3 ht3 => ?_⟩
    have bt3 := at2.alloc (o := .tup [V.str "is", V.int 1]) ht3
    refine ⟨(by show 2 ≤ sizeLine; decide), fun t4 ht4 => ?_⟩
    have bt4 := bt3.alloc (o := .tup [V.str "deed", V.ref t3]) ht4
    have at3 : Od p c H1 OddM _ [.ref t1, .ref t2, .ref t4] := bt4.add (d := .tuple [.str "deed", .tuple [.str "is", .int 1]]) (.tup upd_same (bt3.h.ne ht4).1.symm (.cons (.str _ (by decide +kernel)) (.cons (.tup (by rw [upd_ne (ne_of_none upd_same ht4)]; exact upd_same) (at2.h.ne ht3).1.symm (.cons (.str _ (by decide +kernel)) (.cons (.int _) .nil)) (by decide +kernel)) .nil)) (by decide +kernel)) ⟨by decide +kernel, ⟨by decide +kernel, by decide +kernel⟩⟩
    refine ⟨(by show 2 ≤ sizeLine; decide), fun t5 ht5 => ?_⟩
    have bt5 := at3.alloc (o := .tup [V.str "set", V.int 1]) ht5
    refine ⟨(by show 2 ≤ sizeLine; decide), fun t6 ht6 => ?_⟩
    have bt6 := bt5.alloc (o := .tup [V.str "so", V.ref t5]) ht6
    have at4 : Od p c H1 OddM _ [.ref t1, .ref t2, .ref t4, .ref t6] := bt6.add (d := .tuple [.str "so", .tuple [.str "set", .int 1]]) (.tup upd_same (bt5.h.ne ht6).1.symm (.cons (.str _ (by decide +kernel)) (.cons (.tup (by rw [upd_ne (ne_of_none upd_same ht6)]; exact upd_same) (at3.h.ne ht5).1.symm (.cons (.str _ (by decide +kernel)) (.cons (.int _) .nil)) (by decide +kernel)) .nil)) (by decide +kernel)) ⟨by decide +kernel, ⟨by decide +kernel, by decide +kernel⟩⟩
    refine ⟨(by show 1 ≤ sizeLine; decide), fun t7 ht7 => ?_⟩
    have bt7 := at4.alloc (o := .tup [V.str "turn"]) ht7
    refine ⟨(by show 2 ≤ sizeLine; decide), fun t8 ht8 => ?_⟩
    have bt8 := bt7.alloc (o := .tup [V.str "not", V.ref t7]) ht8
    have at5 : Od p c H1 OddM _ [.ref t1, .ref t2, .ref t4, .ref t6, .ref t8] := bt8.add (d := .tuple [.str "not", .tuple [.str "turn"]]) (.tup upd_same (bt7.h.ne ht8).1.symm (.cons (.str _ (by decide +kernel)) (.cons (.tup (by rw [upd_ne (ne_of_none upd_same ht8)]; exact upd_same) (at4.h.ne ht7).1.symm (.cons (.str _ (by decide +kernel)) .nil) (by decide +kernel)) .nil)) (by decide +kernel)) ⟨by decide +kernel, ⟨by decide +kernel, by decide +kernel⟩⟩
    have at6 : Od p c H1 OddM _ [.ref t1, .ref t2, .ref t4, .ref t6, .ref t8, .non] := at5.add (d := .none) .non ⟨by decide +kernel, ⟨by decide +kernel, by decide +kernel⟩⟩
    refine ⟨(by show 0 ≤ sizeLine; decide), fun t9 ht9 => ?_⟩
    have bt9 := at6.alloc (o := .tup []) ht9
    have at7 : Od p c H1 OddM _ [.ref t1, .ref t2, .ref t4, .ref t6, .ref t8, .non, .ref t9] := bt9.add (d := .tuple []) (.tup upd_same (at6.h.ne ht9).1.symm .nil (by decide +kernel)) ⟨by decide +kernel, ⟨by decide +kernel, by decide +kernel⟩⟩
    refine ⟨_, rfl, (by show 2 ≤ sizeLine; decide), fun t10 ht10 => ?_⟩
    have bt10 := at7.alloc (o := .tup [V.str wd, V.non]) ht10
    have at8 : Od p c H1 OddM _ [.ref t1, .ref t2, .ref t4, .ref t6, .ref t8, .non, .ref t9, .ref t10] := bt10.add (d := .tuple [.str wd, .none]) (.tup upd_same (at7.h.ne ht10).1.symm (.cons (.str _ shw) (.cons .non .nil)) (by rcases hw with rfl | rfl | rfl <;> decide +kernel)) ⟨by rcases hw with rfl | rfl | rfl <;> decide +kernel, by rcases hw with rfl | rfl | rfl <;> exact ⟨by decide +kernel, by decide +kernel⟩⟩
    refine ⟨_, rfl, (by show 2 ≤ sizeLine; decide), fun t11 ht11 => ?_⟩
    have bt11 := at8.alloc (o := .tup [V.str "add", V.bl true]) ht11
    refine ⟨(by show 2 ≤ sizeLine; decide), fun t12 ht12 => ?_⟩
    have bt12 := bt11.alloc (o := .tup [V.str wd, V.ref t11]) ht12
    have at9 : Od p c H1 OddM _ [.ref t1, .ref t2, .ref t4, .ref t6, .ref t8, .non, .ref t9, .ref t10, .ref t12] := bt12.add (d := .tuple [.str wd, .tuple [.str "add", .bool true]]) (.tup upd_same (bt11.h.ne ht12).1.symm (.cons (.str _ shw) (.cons (.tup (by rw [upd_ne (ne_of_none upd_same ht12)]; exact upd_same) (at8.h.ne ht11).1.symm (.cons (.str _ (by decide +kernel)) (.cons (.bl _) .nil)) (by rcases hw with rfl | rfl | rfl <;> decide +kernel)) .nil)) (by rcases hw with rfl | rfl | rfl <;> decide +kernel)) ⟨by rcases hw with rfl | rfl | rfl <;> decide +kernel, by rcases hw with rfl | rfl | rfl <;> exact ⟨by decide +kernel, by decide +kernel⟩⟩
    refine ⟨_, rfl, (by show 2 ≤ sizeLine; decide), fun t13 ht13 => ?_⟩
    have bt13 := at9.alloc (o := .tup [V.str "is", V.int 21]) ht13
    refine ⟨(by show 2 ≤ sizeLine; decide), fun t14 ht14 => ?_⟩
    have bt14 := bt13.alloc (o := .tup [V.str wd, V.ref t13]) ht14
    have at10 : Od p c H1 OddM _ [.ref t1, .ref t2, .ref t4, .ref t6, .ref t8, .non, .ref t9, .ref t10, .ref t12, .ref t14] := bt14.add (d := .tuple [.str wd, .tuple [.str "is", .int 21]]) (.tup upd_same (bt13.h.ne ht14).1.symm (.cons (.str _ shw) (.cons (.tup (by rw [upd_ne (ne_of_none upd_same ht14)]; exact upd_same) (at9.h.ne ht13).1.symm (.cons (.str _ (by decide +kernel)) (.cons (.int _) .nil)) (by rcases hw with rfl | rfl | rfl <;> decide +kernel)) .nil)) (by rcases hw with rfl | rfl | rfl <;> decide +kernel)) ⟨by rcases hw with rfl | rfl | rfl <;> decide +kernel, by rcases hw with rfl | rfl | rfl <;> exact ⟨by decide +kernel, by decide +kernel⟩⟩
    refine ⟨(by show 2 ≤ sizeLine; decide), fun t15 ht15 => ?_⟩
    have bt15 := at10.alloc (o := .tup [V.str "set", V.int 0]) ht15
    refine ⟨(by show 2 ≤ sizeLine; decide), fun t16 ht16 => ?_⟩
    have bt16 := bt15.alloc (o := .tup [V.str "do", V.ref t15]) ht16
    have at11 : Od p c H1 OddM _ [.ref t1, .ref t2, .ref t4, .ref t6, .ref t8, .non, .ref t9, .ref t10, .ref t12, .ref t14, .ref t16] := bt16.add (d := .tuple [.str "do", .tuple [.str "set", .int 0]]) (.tup upd_same (bt15.h.ne ht16).1.symm (.cons (.str _ (by decide +kernel)) (.cons (.tup (by rw [upd_ne (ne_of_none upd_same ht16)]; exact upd_same) (at10.h.ne ht15).1.symm (.cons (.str _ (by decide +kernel)) (.cons (.int _) .nil)) (by decide +kernel)) .nil)) (by decide +kernel)) ⟨by decide +kernel, ⟨by decide +kernel, by decide +kernel⟩⟩
    have at12 : Od p c H1 OddM _ [.ref t1, .ref t2, .ref t4, .ref t6, .ref t8, .non, .ref t9, .ref t10, .ref t12, .ref t14, .ref t16, .str "stay"] := at11.add (d := .str "stay") (.str _ (by decide +kernel)) ⟨by decide +kernel, ⟨by decide +kernel, by decide +kernel⟩⟩
    refine ⟨(by show 2 ≤ sizeLine; decide), fun t17 ht17 => ?_⟩
    have bt17 := at12.alloc (o := .tup [V.str "join", V.int 1]) ht17
    have at13 : Od p c H1 OddM _ [.ref t1, .ref t2, .ref t4, .ref t6, .ref t8, .non, .ref t9, .ref t10, .ref t12, .ref t14, .ref t16, .str "stay", .ref t17] := bt17.add (d := .tuple [.str "join", .int 1]) (.tup upd_same (at12.h.ne ht17).1.symm (.cons (.str _ (by decide +kernel)) (.cons (.int _) .nil)) (by decide +kernel)) ⟨by decide +kernel, ⟨by decide +kernel, by decide +kernel⟩⟩
    refine ⟨_, rfl, (by show 3 ≤ sizeLine; decide), fun t18 ht18 => ?_⟩
    have bt18 := at13.alloc (o := .tup [V.str "rest", V.int 2, V.int 2]) ht18
    refine ⟨(by show 2 ≤ sizeLine; decide), fun t19 ht19 => ?_⟩
    have bt19 := bt18.alloc (o := .tup [V.str wd, V.ref t18]) ht19
    have at14 : Od p c H1 OddM _ [.ref t1, .ref t2, .ref t4, .ref t6, .ref t8, .non, .ref t9, .ref t10, .ref t12, .ref t14, .ref t16, .str "stay", .ref t17, .ref t19] := bt19.add (d := .tuple [.str wd, .tuple [.str "rest", .int 2, .int 2]]) (.tup upd_same (bt18.h.ne ht19).1.symm (.cons (.str _ shw) (.cons (.tup (by rw [upd_ne (ne_of_none upd_same ht19)]; exact upd_same) (at13.h.ne ht18).1.symm (.cons (.str _ (by decide +kernel)) (.cons (.int _) (.cons (.int _) .nil))) (by rcases hw with rfl | rfl | rfl <;> decide +kernel)) .nil)) (by rcases hw with rfl | rfl | rfl <;> decide +kernel)) ⟨by rcases hw with rfl | rfl | rfl <;> decide +kernel, by rcases hw with rfl | rfl | rfl <;> exact ⟨by decide +kernel, by decide +kernel⟩⟩
    refine ⟨(by show 2 ≤ sizeLine; decide), fun t20 ht20 => ?_⟩
    have bt20 := at14.alloc (o := .tup [V.str "set", V.int 1]) ht20
    refine ⟨(by show 3 ≤ sizeLine; decide), fun t21 ht21 => ?_⟩
    have bt21 := bt20.alloc (o := .tup [V.str "deed", V.ref t20, V.int 0]) ht21
    have at15 : Od p c H1 OddM _ [.ref t1, .ref t2, .ref t4, .ref t6, .ref t8, .non, .ref t9, .ref t10, .ref t12, .ref t14, .ref t16, .str "stay", .ref t17, .ref t19, .ref t21] := bt21.add (d := .tuple [.str "deed", .tuple [.str "set", .int 1], .int 0]) (.tup upd_same (bt20.h.ne ht21).1.symm (.cons (.str _ (by decide +kernel)) (.cons (.tup (by rw [upd_ne (ne_of_none upd_same ht21)]; exact upd_same) (at14.h.ne ht20).1.symm (.cons (.str _ (by decide +kernel)) (.cons (.int _) .nil)) (by decide +kernel)) (.cons (.int _) .nil))) (by decide +kernel)) ⟨by decide +kernel, ⟨by decide +kernel, by decide +kernel⟩⟩
    refine ⟨(by show 1 ≤ sizeLine; decide), fun t22 ht22 => ?_⟩
    have bt22 := at15.alloc (o := .lst [V.int 7]) ht22
    have at16 : Od p c H1 OddM _ [.ref t1, .ref t2, .ref t4, .ref t6, .ref t8, .non, .ref t9, .ref t10, .ref t12, .ref t14, .ref t16, .str "stay", .ref t17, .ref t19, .ref t21, .ref t22] := bt22.add (d := .list [.int 7]) (.lst upd_same (at15.h.ne ht22).1.symm (.cons (.int _) .nil) (by decide +kernel)) ⟨by decide +kernel, ⟨by decide +kernel, by decide +kernel⟩⟩
    have at17 : Od p c H1 OddM _ [.ref t1, .ref t2, .ref t4, .ref t6, .ref t8, .non, .ref t9, .ref t10, .ref t12, .ref t14, .ref t16, .str "stay", .ref t17, .ref t19, .ref t21, .ref t22, .int 7] := at16.add (d := .int 7) (.int _) ⟨by decide +kernel, ⟨by decide +kernel, by decide +kernel⟩⟩
    refine ⟨(by show 17 ≤ sizeLine; decide), fun l2 hl2 => ?_⟩
    exact at17.pick hl2 ⟨by simp, by simp⟩ fun x d H' t r hh' b' => k x d H' t r hh' (((But.of s1).trans b1).trans b')
end
end My
set_option Elab.async false
set_option linter.all false
set_option maxRecDepth 100000
set_option maxHeartbeats 8000000
namespace My
open PySem PySem.Spec PyProof.Rows L2
local macro_rules | `(tactic| walk_at "lv") => `(tactic| first | exact Or.inl rfl | exact Or.inr rfl)
theorem wDd_no {lo hi m : Int} (h : ¬ (lo ≤ m ∧ m ≤ hi)) : wDd lo hi (.int m) = false := by
  show (decide (lo ≤ m) && decide (m ≤ hi)) = false
  by_cases h1 : lo ≤ m
  · rw [decide_eq_false (p := m ≤ hi) fun z => h ⟨h1, z⟩, Bool.and_false]
  · rw [decide_eq_false h1]; rfl
theorem Small.mono {a b : Nat} {d : PyData} (h : Small a d) (l : a ≤ b) : Small b d := ⟨h.1, Nat.le_trans h.2 l⟩
section
variable {P : Program} {w : World} {K : PySem.W.Frag} {mg : Str → Option Value} {base : Heap}
abbrev OddS (n : Int) (d : PyData) : Prop := isStart n d = false ∧ Small 20 d
def spOdS : Sp := fun vs H Q _ => ∃ (p c : Addr) (n : Int), vs = [.ref p, .int n] ∧ HandC H p c ∧ 1 ≤ n ∧ ∀ x d H', Tg p H' x d → OddS n d → HandC H' p c → But p H H' → Q x H'
abbrev s_os : Stmt := top 63
abbrev N_os : List Str := ["_law_hand_here", "_law_stations", "_law_far"]
theorem sc_os : FnScope N_os ["_law_hand_here", "_law_stations"] (defScope s_os) := ⟨rfl, rfl, rfl, by decide +kernel, rfl, by decide +kernel, by decide +kernel⟩
theorem kp_os (F : At K mg "_law_odd_start" s_os) (G : Keeps CX0 P w K mg base "_law_draw" 2 ["_law_hand_here", "_law_many"] spDraw) (Gp : Keeps CX0 P w K mg base "_law_pick" 3 ["_law_hand_here", "_law_things"] spPick) : Keeps CX0 P w K mg base "_law_odd_start" 4 ["_law_hand_here", "_law_stations"] spOdS := by
  refine keeps_of F sc_os (fun _ _ _ _ _ _ us hl => match us, hl with | [_, _], _ => rfl) (fun vs H Q E h => ?_) (fun f cdv A outer s H vs Q E hr h => ?_)
  · obtain ⟨p, c, n, rfl, _⟩ := h
    rfl
  · obtain ⟨p, c, n, rfl, hh, n1, k⟩ := h
    have h2 : Room 2 (A.deeper (envOfC "_law_odd_start" (defScope s_os) s.heap.objs.size f cdv)) := hr.mono (by decide)
    refine ⟨_, (pss_cons (ps_set (i := 2) sc_os.nd rfl (by walk_at "lv") (pe_op op_add pe_int (pe_k G h2 (by rfl) pass0 (pa_cons (pv 0) (pa_cons (pe_op op_pow pe_int pe_int) pa_nil)))))
        (pss_one (ps_ret (pe_k Gp hr (by rfl) pass0 (pa_cons (pv 0) (pa_cons (pe_lst (pa_cons (pe_tup (pa_cons (pv 1) (pa_cons pe_int pa_nil))) (pa_cons (pe_tup (pa_cons (pe_un un_neg pe_int) (pa_cons pe_int pa_nil))) (pa_cons (pe_tup (pa_cons pe_int (pa_cons (pv 2) pa_nil))) (pa_cons (pe_tup (pa_cons pe_int (pa_cons (pe_op op_sub pe_int (pv 2)) pa_nil))) (pa_cons (pe_tup (pa_cons pe_int pa_nil)) (pa_cons (pe_tup (pa_cons pe_int (pa_cons pe_int (pa_cons pe_int pa_nil)))) (pa_cons pe_non (pa_cons pe_int (pa_cons (pe_tup (pa_cons pe_bl (pa_cons pe_int pa_nil))) (pa_cons (pe_tup (pa_cons pe_int (pa_cons pe_bl pa_nil))) (pa_cons (pe_tup (pa_cons pe_int (pa_cons pe_non pa_nil))) (pa_cons (pe_tup (pa_cons pe_str (pa_cons pe_int pa_nil))) (pa_cons (pe_tup pa_nil) pa_nil)))))))))))))) pa_nil)))))), ?_⟩
    refine ⟨_, rfl, _, _, rfl, rfl, ⟨by decide, by decide, by decide⟩, p, c, _, rfl, hh, ⟨by decide, by decide +kernel⟩, fun fr H1 fr0 _ hh1 b1 => ⟨_, _, rfl, rfl, ?_⟩⟩
    have a0 : Od p c H1 (OddS n) H1 [] := Od.nil hh1
    refine ⟨_, rfl, ?_⟩
    refine ⟨_, rfl, (by show 2 ≤ sizeLine; decide), fun t1 ht1 => ?_⟩
    have bt1 := a0.alloc (o := .tup [V.int n, V.int 0]) ht1
    have at1 : Od p c H1 (OddS n) _ [.ref t1] := bt1.add (d := .tuple [.int n, .int 0]) (.tup upd_same (a0.h.ne ht1).1.symm (.cons (.int _) (.cons (.int _) .nil)) (by kernel_rfl)) ⟨by show (wDd 0 (n - 1) (.int n) && wDd (-1000) 1000 (.int 0)) = false; rw [wDd_no (by omega)]; rfl, ⟨by kernel_rfl, Nat.le_of_ble_eq_true (by kernel_rfl)⟩⟩
    refine ⟨_, rfl, (by show 2 ≤ sizeLine; decide), fun t2 ht2 => ?_⟩
    have bt2 := at1.alloc (o := .tup [V.int (-1), V.int 0]) ht2
    have at2 : Od p c H1 (OddS n) _ [.ref t1, .ref t2] := bt2.add (d := .tuple [.int (-1), .int 0]) (.tup upd_same (at1.h.ne ht2).1.symm (.cons (.int _) (.cons (.int _) .nil)) (by kernel_rfl)) ⟨by show (wDd 0 (n - 1) (.int (-1)) && wDd (-1000) 1000 (.int 0)) = false; rw [wDd_no (by omega)]; rfl, ⟨by kernel_rfl, Nat.le_of_ble_eq_true (by kernel_rfl)⟩⟩
    refine ⟨_, rfl, (by show 2 ≤ sizeLine; decide), fun t3 ht3 => ?_⟩
    have bt3 := at2.alloc (o := .tup [V.int 0, V.int (1001 + fr)]) ht3
    have at3 : Od p c H1 (OddS n) _ [.ref t1, .ref t2, .ref t3] := bt3.add (d := .tuple [.int 0, .int (1001 + fr)]) (.tup upd_same (at2.h.ne ht3).1.symm (.cons (.int _) (.cons (.int _) .nil)) (by kernel_rfl)) ⟨by show (wDd 0 (n - 1) (.int 0) && wDd (-1000) 1000 (.int (1001 + fr))) = false; rw [wDd_no (m := (1001 + fr)) (by omega)]; exact Bool.and_false _, ⟨by kernel_rfl, Nat.le_of_ble_eq_true (by kernel_rfl)⟩⟩
    refine ⟨_, rfl, _, _, rfl, rfl, (by show 2 ≤ sizeLine; decide), fun t4 ht4 => ?_⟩
    have bt4 := at3.alloc (o := .tup [V.int 0, V.int (0 - (1001 + fr))]) ht4
    have at4 : Od p c H1 (OddS n) _ [.ref t1, .ref t2, .ref t3, .ref t4] := bt4.add (d := .tuple [.int 0, .int (0 - (1001 + fr))]) (.tup upd_same (at3.h.ne ht4).1.symm (.cons (.int _) (.cons (.int _) .nil)) (by kernel_rfl)) ⟨by show (wDd 0 (n - 1) (.int 0) && wDd (-1000) 1000 (.int (0 - (1001 + fr)))) = false; rw [wDd_no (m := (0 - (1001 + fr))) (by omega)]; exact Bool.and_false _, ⟨by kernel_rfl, Nat.le_of_ble_eq_true (by kernel_rfl)⟩⟩
    refine ⟨(by show 1 ≤ sizeLine; decide), fun t5 ht5 => ?_⟩
    have bt5 := at4.alloc (o := .tup [V.int 0]) ht5
    have at5 : Od p c H1 (OddS n) _ [.ref t1, .ref t2, .ref t3, .ref t4, .ref t5] := bt5.add (d := .tuple [.int 0]) (.tup upd_same (at4.h.ne ht5).1.symm (.cons (.int _) .nil) (by kernel_rfl)) ⟨rfl, ⟨by kernel_rfl, Nat.le_of_ble_eq_true (by kernel_rfl)⟩⟩
    refine ⟨(by show 3 ≤ sizeLine; decide), fun t6 ht6 => ?_⟩
    have bt6 := at5.alloc (o := .tup [V.int 0, V.int 0, V.int 0]) ht6
    have at6 : Od p c H1 (OddS n) _ [.ref t1, .ref t2, .ref t3, .ref t4, .ref t5, .ref t6] := bt6.add (d := .tuple [.int 0, .int 0, .int 0]) (.tup upd_same (at5.h.ne ht6).1.symm (.cons (.int _) (.cons (.int _) (.cons (.int _) .nil))) (by kernel_rfl)) ⟨rfl, ⟨by kernel_rfl, Nat.le_of_ble_eq_true (by kernel_rfl)⟩⟩
    have at7 : Od p c H1 (OddS n) _ [.ref t1, .ref t2, .ref t3, .ref t4, .ref t5, .ref t6, .non] := at6.add (d := .none) .non ⟨rfl, ⟨by kernel_rfl, Nat.le_of_ble_eq_true (by kernel_rfl)⟩⟩
    have at8 : Od p c H1 (OddS n) _ [.ref t1, .ref t2, .ref t3, .ref t4, .ref t5, .ref t6, .non, .int 0] := at7.add (d := .int 0) (.int _) ⟨rfl, ⟨by kernel_rfl, Nat.le_of_ble_eq_true (by kernel_rfl)⟩⟩
    refine ⟨(by show 2 ≤ sizeLine; decide), fun t7 ht7 => ?_⟩
    have bt7 := at8.alloc (o := .tup [V.bl true, V.int 0]) ht7
    have at9 : Od p c H1 (OddS n) _ [.ref t1, .ref t2, .ref t3, .ref t4, .ref t5, .ref t6, .non, .int 0, .ref t7] := bt7.add (d := .tuple [.bool true, .int 0]) (.tup upd_same (at8.h.ne ht7).1.symm (.cons (.bl _) (.cons (.int _) .nil)) (by kernel_rfl)) ⟨rfl, ⟨by kernel_rfl, Nat.le_of_ble_eq_true (by kernel_rfl)⟩⟩
    refine ⟨(by show 2 ≤ sizeLine; decide), fun t8 ht8 => ?_⟩
    have bt8 := at9.alloc (o := .tup [V.int 0, V.bl false]) ht8
    have at10 : Od p c H1 (OddS n) _ [.ref t1, .ref t2, .ref t3, .ref t4, .ref t5, .ref t6, .non, .int 0, .ref t7, .ref t8] := bt8.add (d := .tuple [.int 0, .bool false]) (.tup upd_same (at9.h.ne ht8).1.symm (.cons (.int _) (.cons (.bl _) .nil)) (by kernel_rfl)) ⟨by show (wDd 0 (n - 1) (.int 0) && false) = false; exact Bool.and_false _, ⟨by kernel_rfl, Nat.le_of_ble_eq_true (by kernel_rfl)⟩⟩
    refine ⟨(by show 2 ≤ sizeLine; decide), fun t9 ht9 => ?_⟩
    have bt9 := at10.alloc (o := .tup [V.int 0, V.non]) ht9
    have at11 : Od p c H1 (OddS n) _ [.ref t1, .ref t2, .ref t3, .ref t4, .ref t5, .ref t6, .non, .int 0, .ref t7, .ref t8, .ref t9] := bt9.add (d := .tuple [.int 0, .none]) (.tup upd_same (at10.h.ne ht9).1.symm (.cons (.int _) (.cons .non .nil)) (by kernel_rfl)) ⟨by show (wDd 0 (n - 1) (.int 0) && false) = false; exact Bool.and_false _, ⟨by kernel_rfl, Nat.le_of_ble_eq_true (by kernel_rfl)⟩⟩
    refine ⟨(by show 2 ≤ sizeLine; decide), fun t10 ht10 => ?_⟩
    have bt10 := at11.alloc (o := .tup [V.str "0", V.int 0]) ht10
    have at12 : Od p c H1 (OddS n) _ [.ref t1, .ref t2, .ref t3, .ref t4, .ref t5, .ref t6, .non, .int 0, .ref t7, .ref t8, .ref t9, .ref t10] := bt10.add (d := .tuple [.str "0", .int 0]) (.tup upd_same (at11.h.ne ht10).1.symm (.cons (.str _ (by decide +kernel)) (.cons (.int _) .nil)) (by kernel_rfl)) ⟨rfl, ⟨by kernel_rfl, Nat.le_of_ble_eq_true (by kernel_rfl)⟩⟩
    refine ⟨(by show 0 ≤ sizeLine; decide), fun t11 ht11 => ?_⟩
    have bt11 := at12.alloc (o := .tup []) ht11
    have at13 : Od p c H1 (OddS n) _ [.ref t1, .ref t2, .ref t3, .ref t4, .ref t5, .ref t6, .non, .int 0, .ref t7, .ref t8, .ref t9, .ref t10, .ref t11] := bt11.add (d := .tuple []) (.tup upd_same (at12.h.ne ht11).1.symm .nil (by kernel_rfl)) ⟨rfl, ⟨by kernel_rfl, Nat.le_of_ble_eq_true (by kernel_rfl)⟩⟩
    refine ⟨(by show 13 ≤ sizeLine; decide), fun l2 hl2 => ?_⟩
    exact at13.pick hl2 ⟨by simp, by simp⟩ fun x d H' t r hh' b' => k x d H' t r hh' (b1.trans b')
abbrev OddA (n : Int) (d : PyData) : Prop := isArrow n d = false ∧ Small 30 d
def spOdA : Sp := fun vs H Q _ => ∃ (p c : Addr) (n : Int), vs = [.ref p, .int n] ∧ HandC H p c ∧ 1 ≤ n ∧ ∀ x d H', Tg p H' x d → OddA n d → HandC H' p c → But p H H' → Q x H'
abbrev s_oa : Stmt := top 64
abbrev N_oa : List Str := ["_law_hand_here", "_law_stations"]
theorem sc_oa : FnScope N_oa ["_law_hand_here", "_law_stations"] (defScope s_oa) := ⟨rfl, rfl, rfl, by decide +kernel, rfl, by decide +kernel, by decide +kernel⟩
theorem kp_oa (F : At K mg "_law_odd_arrow" s_oa) (Gp : Keeps CX0 P w K mg base "_law_pick" 3 ["_law_hand_here", "_law_things"] spPick) (Gm : Keeps CX0 P w K mg base "_law_odd_move" 4 ["_law_hand_here"] spOdM) : Keeps CX0 P w K mg base "_law_odd_arrow" 5 ["_law_hand_here", "_law_stations"] spOdA := by
  refine keeps_of F sc_oa (fun _ _ _ _ _ _ us hl => match us, hl with | [_, _], _ => rfl) (fun vs H Q E h => ?_) (fun f cdv A outer s H vs Q E hr h => ?_)
  · obtain ⟨p, c, n, rfl, _⟩ := h
    rfl
  · obtain ⟨p, c, n, rfl, hh, n1, k⟩ := h
    have h3 : Room 3 (A.deeper (envOfC "_law_odd_arrow" (defScope s_oa) s.heap.objs.size f cdv)) := hr.mono (by decide)
    refine ⟨_, (pss_one (ps_ret (pe_k Gp h3 (by rfl) pass0 (pa_cons (pv 0) (pa_cons (pe_lst (pa_cons (pe_tup (pa_cons (pv 1) (pa_cons (pe_tup (pa_cons pe_str pa_nil)) (pa_cons pe_int pa_nil)))) (pa_cons (pe_tup (pa_cons pe_int (pa_cons (pe_tup (pa_cons pe_str pa_nil)) (pa_cons (pv 1) pa_nil)))) (pa_cons (pe_tup (pa_cons (pe_un un_neg pe_int) (pa_cons (pe_tup (pa_cons pe_str pa_nil)) (pa_cons pe_int pa_nil)))) (pa_cons (pe_tup (pa_cons pe_int (pa_cons (pe_tup (pa_cons pe_str pa_nil)) (pa_cons (pe_un un_neg pe_int) pa_nil)))) (pa_cons (pe_tup (pa_cons pe_int (pa_cons (pe_k Gm hr (by rfl) pass0 (pa_cons (pv 0) pa_nil)) (pa_cons pe_int pa_nil)))) (pa_cons (pe_tup (pa_cons pe_int (pa_cons (pe_tup (pa_cons pe_str pa_nil)) pa_nil))) (pa_cons (pe_tup (pa_cons pe_int (pa_cons (pe_tup (pa_cons pe_str pa_nil)) (pa_cons pe_int (pa_cons pe_int pa_nil))))) (pa_cons pe_non (pa_cons pe_int (pa_cons (pe_tup (pa_cons pe_int (pa_cons (pe_tup (pa_cons pe_str pa_nil)) (pa_cons pe_bl pa_nil)))) (pa_cons (pe_tup (pa_cons pe_bl (pa_cons (pe_tup (pa_cons pe_str pa_nil)) (pa_cons pe_int pa_nil)))) (pa_cons (pe_tup pa_nil) pa_nil))))))))))))) pa_nil))))), ?_⟩
    have a0 : Od p c H (OddA n) H [] := Od.nil hh
    refine ⟨_, rfl, ?_⟩
    refine ⟨_, rfl, (by show 1 ≤ sizeLine; decide), fun t1 ht1 => ?_⟩
    have bt1 := a0.alloc (o := .tup [V.str "stay"]) ht1
    refine ⟨(by show 3 ≤ sizeLine; decide), fun t2 ht2 => ?_⟩
    have bt2 := bt1.alloc (o := .tup [V.int n, V.ref t1, V.int 0]) ht2
    have at1 : Od p c H (OddA n) _ [.ref t2] := bt2.add (d := .tuple [.int n, .tuple [.str "stay"], .int 0]) (.tup upd_same (bt1.h.ne ht2).1.symm (.cons (.int _) (.cons (.tup (by rw [upd_ne (ne_of_none upd_same ht2)]; exact upd_same) (a0.h.ne ht1).1.symm (.cons (.str _ (by decide +kernel)) .nil) (by kernel_rfl)) (.cons (.int _) .nil))) (by kernel_rfl)) ⟨by show (wDd 0 (n - 1) (.int n) && (fmT (.tuple [.str "stay"]) && wDd 0 (n - 1) (.int 0))) = false; rw [wDd_no (m := n) (by omega)]; rfl, ⟨by kernel_rfl, Nat.le_of_ble_eq_true (by kernel_rfl)⟩⟩
    refine ⟨(by show 1 ≤ sizeLine; decide), fun t3 ht3 => ?_⟩
    have bt3 := at1.alloc (o := .tup [V.str "stay"]) ht3
    refine ⟨_, rfl, (by show 3 ≤ sizeLine; decide), fun t4 ht4 => ?_⟩
    have bt4 := bt3.alloc (o := .tup [V.int 0, V.ref t3, V.int n]) ht4
    have at2 : Od p c H (OddA n) _ [.ref t2, .ref t4] := bt4.add (d := .tuple [.int 0, .tuple [.str "stay"], .int n]) (.tup upd_same (bt3.h.ne ht4).1.symm (.cons (.int _) (.cons (.tup (by rw [upd_ne (ne_of_none upd_same ht4)]; exact upd_same) (at1.h.ne ht3).1.symm (.cons (.str _ (by decide +kernel)) .nil) (by kernel_rfl)) (.cons (.int _) .nil))) (by kernel_rfl)) ⟨by show (wDd 0 (n - 1) (.int 0) && (fmT (.tuple [.str "stay"]) && wDd 0 (n - 1) (.int n))) = false; rw [wDd_no (m := n) (by omega), Bool.and_false, Bool.and_false], ⟨by kernel_rfl, Nat.le_of_ble_eq_true (by kernel_rfl)⟩⟩
    refine ⟨_, rfl, (by show 1 ≤ sizeLine; decide), fun t5 ht5 => ?_⟩
    have bt5 := at2.alloc (o := .tup [V.str "stay"]) ht5
    refine ⟨(by show 3 ≤ sizeLine; decide), fun t6 ht6 => ?_⟩
    have bt6 := bt5.alloc (o := .tup [V.int (-1), V.ref t5, V.int 0]) ht6
    have at3 : Od p c H (OddA n) _ [.ref t2, .ref t4, .ref t6] := bt6.add (d := .tuple [.int (-1), .tuple [.str "stay"], .int 0]) (.tup upd_same (bt5.h.ne ht6).1.symm (.cons (.int _) (.cons (.tup (by rw [upd_ne (ne_of_none upd_same ht6)]; exact upd_same) (at2.h.ne ht5).1.symm (.cons (.str _ (by decide +kernel)) .nil) (by kernel_rfl)) (.cons (.int _) .nil))) (by kernel_rfl)) ⟨by show (wDd 0 (n - 1) (.int (-1)) && (fmT (.tuple [.str "stay"]) && wDd 0 (n - 1) (.int 0))) = false; rw [wDd_no (m := (-1)) (by omega)]; rfl, ⟨by kernel_rfl, Nat.le_of_ble_eq_true (by kernel_rfl)⟩⟩
    refine ⟨(by show 1 ≤ sizeLine; decide), fun t7 ht7 => ?_⟩
    have bt7 := at3.alloc (o := .tup [V.str "stay"]) ht7
    refine ⟨_, rfl, (by show 3 ≤ sizeLine; decide), fun t8 ht8 => ?_⟩
    have bt8 := bt7.alloc (o := .tup [V.int 0, V.ref t7, V.int (-1)]) ht8
    have at4 : Od p c H (OddA n) _ [.ref t2, .ref t4, .ref t6, .ref t8] := bt8.add (d := .tuple [.int 0, .tuple [.str "stay"], .int (-1)]) (.tup upd_same (bt7.h.ne ht8).1.symm (.cons (.int _) (.cons (.tup (by rw [upd_ne (ne_of_none upd_same ht8)]; exact upd_same) (at3.h.ne ht7).1.symm (.cons (.str _ (by decide +kernel)) .nil) (by kernel_rfl)) (.cons (.int _) .nil))) (by kernel_rfl)) ⟨by show (wDd 0 (n - 1) (.int 0) && (fmT (.tuple [.str "stay"]) && wDd 0 (n - 1) (.int (-1)))) = false; rw [wDd_no (m := (-1)) (by omega), Bool.and_false, Bool.and_false], ⟨by kernel_rfl, Nat.le_of_ble_eq_true (by kernel_rfl)⟩⟩
    refine ⟨_, rfl, p, c, rfl, at4.h, fun x d H5 tx rx hh5 b5 => ⟨(by show 3 ≤ sizeLine; decide), fun t5 ht5 => ?_⟩⟩
    have c1 := (at4.but b5 hh5).alloc (o := .tup [V.int 0, x, V.int 0]) ht5
    have sd : Small 30 (.tuple [.int 0, d, .int 0]) := small_tup (n := 29) fun e he => by
      rcases List.mem_cons.1 he with rfl | he
      · exact ⟨by kernel_rfl, Nat.le_of_ble_eq_true (by kernel_rfl)⟩
      · rcases List.mem_cons.1 he with rfl | he
        · exact rx.2.mono (by decide)
        · rw [List.mem_singleton.mp he]; exact ⟨by kernel_rfl, Nat.le_of_ble_eq_true (by kernel_rfl)⟩
    have at5 : Od p c H (OddA n) _ [.ref t2, .ref t4, .ref t6, .ref t8, .ref t5] := c1.add (d := .tuple [.int 0, d, .int 0]) (.tup upd_same (hh5.ne ht5).1.symm (.cons (.int _) (.cons (tx.same (same_new (Same.refl H5) ht5)) (.cons (.int _) .nil))) (sd.shaped (by decide))) ⟨by show (wDd 0 (n - 1) (.int 0) && (fmT d && wDd 0 (n - 1) (.int 0))) = false; rw [rx.1]; exact Bool.and_false _, sd⟩
    refine ⟨(by show 1 ≤ sizeLine; decide), fun t21 ht21 => ?_⟩
    have bt21 := at5.alloc (o := .tup [V.str "stay"]) ht21
    refine ⟨(by show 2 ≤ sizeLine; decide), fun t22 ht22 => ?_⟩
    have bt22 := bt21.alloc (o := .tup [V.int 0, V.ref t21]) ht22
    have at6 : Od p c H (OddA n) _ [.ref t2, .ref t4, .ref t6, .ref t8, .ref t5, .ref t22] := bt22.add (d := .tuple [.int 0, .tuple [.str "stay"]]) (.tup upd_same (bt21.h.ne ht22).1.symm (.cons (.int _) (.cons (.tup (by rw [upd_ne (ne_of_none upd_same ht22)]; exact upd_same) (at5.h.ne ht21).1.symm (.cons (.str _ (by decide +kernel)) .nil) (by kernel_rfl)) .nil)) (by kernel_rfl)) ⟨rfl, ⟨by kernel_rfl, Nat.le_of_ble_eq_true (by kernel_rfl)⟩⟩
    refine ⟨(by show 1 ≤ sizeLine; decide), fun t23 ht23 => ?_⟩
    have bt23 := at6.alloc (o := .tup [V.str "stay"]) ht23
    refine ⟨(by show 4 ≤ sizeLine; decide), fun t24 ht24 => ?_⟩
    have bt24 := bt23.alloc (o := .tup [V.int 0, V.ref t23, V.int 0, V.int 0]) ht24
    have at7 : Od p c H (OddA n) _ [.ref t2, .ref t4, .ref t6, .ref t8, .ref t5, .ref t22, .ref t24] := bt24.add (d := .tuple [.int 0, .tuple [.str "stay"], .int 0, .int 0]) (.tup upd_same (bt23.h.ne ht24).1.symm (.cons (.int _) (.cons (.tup (by rw [upd_ne (ne_of_none upd_same ht24)]; exact upd_same) (at6.h.ne ht23).1.symm (.cons (.str _ (by decide +kernel)) .nil) (by kernel_rfl)) (.cons (.int _) (.cons (.int _) .nil)))) (by kernel_rfl)) ⟨rfl, ⟨by kernel_rfl, Nat.le_of_ble_eq_true (by kernel_rfl)⟩⟩
    have at8 : Od p c H (OddA n) _ [.ref t2, .ref t4, .ref t6, .ref t8, .ref t5, .ref t22, .ref t24, .non] := at7.add (d := .none) .non ⟨rfl, ⟨by kernel_rfl, Nat.le_of_ble_eq_true (by kernel_rfl)⟩⟩
    have at9 : Od p c H (OddA n) _ [.ref t2, .ref t4, .ref t6, .ref t8, .ref t5, .ref t22, .ref t24, .non, .int 0] := at8.add (d := .int 0) (.int _) ⟨rfl, ⟨by kernel_rfl, Nat.le_of_ble_eq_true (by kernel_rfl)⟩⟩
    refine ⟨(by show 1 ≤ sizeLine; decide), fun t25 ht25 => ?_⟩
    have bt25 := at9.alloc (o := .tup [V.str "stay"]) ht25
    refine ⟨(by show 3 ≤ sizeLine; decide), fun t26 ht26 => ?_⟩
    have bt26 := bt25.alloc (o := .tup [V.int 0, V.ref t25, V.bl false]) ht26
    have at10 : Od p c H (OddA n) _ [.ref t2, .ref t4, .ref t6, .ref t8, .ref t5, .ref t22, .ref t24, .non, .int 0, .ref t26] := bt26.add (d := .tuple [.int 0, .tuple [.str "stay"], .bool false]) (.tup upd_same (bt25.h.ne ht26).1.symm (.cons (.int _) (.cons (.tup (by rw [upd_ne (ne_of_none upd_same ht26)]; exact upd_same) (at9.h.ne ht25).1.symm (.cons (.str _ (by decide +kernel)) .nil) (by kernel_rfl)) (.cons (.bl _) .nil))) (by kernel_rfl)) ⟨by show (wDd 0 (n - 1) (.int 0) && (fmT (.tuple [.str "stay"]) && false)) = false; rw [Bool.and_false, Bool.and_false], ⟨by kernel_rfl, Nat.le_of_ble_eq_true (by kernel_rfl)⟩⟩
    refine ⟨(by show 1 ≤ sizeLine; decide), fun t27 ht27 => ?_⟩
    have bt27 := at10.alloc (o := .tup [V.str "stay"]) ht27
    refine ⟨(by show 3 ≤ sizeLine; decide), fun t28 ht28 => ?_⟩
    have bt28 := bt27.alloc (o := .tup [V.bl false, V.ref t27, V.int 0]) ht28
    have at11 : Od p c H (OddA n) _ [.ref t2, .ref t4, .ref t6, .ref t8, .ref t5, .ref t22, .ref t24, .non, .int 0, .ref t26, .ref t28] := bt28.add (d := .tuple [.bool false, .tuple [.str "stay"], .int 0]) (.tup upd_same (bt27.h.ne ht28).1.symm (.cons (.bl _) (.cons (.tup (by rw [upd_ne (ne_of_none upd_same ht28)]; exact upd_same) (at10.h.ne ht27).1.symm (.cons (.str _ (by decide +kernel)) .nil) (by kernel_rfl)) (.cons (.int _) .nil))) (by kernel_rfl)) ⟨rfl, ⟨by kernel_rfl, Nat.le_of_ble_eq_true (by kernel_rfl)⟩⟩
    refine ⟨(by show 0 ≤ sizeLine; decide), fun t29 ht29 => ?_⟩
    have bt29 := at11.alloc (o := .tup []) ht29
    have at12 : Od p c H (OddA n) _ [.ref t2, .ref t4, .ref t6, .ref t8, .ref t5, .ref t22, .ref t24, .non, .int 0, .ref t26, .ref t28, .ref t29] := bt29.add (d := .tuple []) (.tup upd_same (at11.h.ne ht29).1.symm .nil (by kernel_rfl)) ⟨rfl, ⟨by kernel_rfl, Nat.le_of_ble_eq_true (by kernel_rfl)⟩⟩
    refine ⟨(by show 12 ≤ sizeLine; decide), fun l2 hl2 => ?_⟩
    exact at12.pick hl2 ⟨by simp, by simp⟩ fun x d H' t r hh' b' => k x d H' t r hh' b'
end
end My
set_option Elab.async false
set_option linter.all false
set_option maxRecDepth 100000
set_option maxHeartbeats 8000000
namespace My
open PySem PySem.Spec PyProof.Rows L2
local macro_rules | `(tactic| walk_at "lv") => `(tactic| first | exact Or.inl rfl | exact Or.inr rfl)
section
variable {p : Addr} {H H' : Hp}
theorem TgAll.app : ∀ {xs ys : List V} {ds es : List PyData}, TgAll p H xs ds → TgAll p H ys es → TgAll p H (xs ++ ys) (ds ++ es)
  | _, _, _, _, .nil, h => h
  | _, _, _, _, .cons a r, h => .cons a (TgAll.app r h)
theorem TgAll.drop : ∀ {xs : List V} {ds : List PyData} (i : Nat), TgAll p H xs ds → TgAll p H (xs.drop i) (ds.drop i)
  | _, _, 0, h => h
  | _, _, i + 1, .nil => .nil
  | _, _, i + 1, .cons _ r => TgAll.drop i r
theorem TgAll.take : ∀ {xs : List V} {ds : List PyData} (i : Nat), TgAll p H xs ds → TgAll p H (xs.take i) (ds.take i)
  | _, _, 0, _ => .nil
  | _, _, i + 1, .nil => .nil
  | _, _, i + 1, .cons a r => .cons a (TgAll.take i r)
theorem TgAll.same {xs : List V} {ds : List PyData} (s : Same H H') (h : TgAll p H xs ds) : TgAll p H' xs ds := TgAll.but (But.of s) _ _ h
end
theorem cut_from {xs : List V} {i : Nat} : cutV xs (some (i : Int)) none = xs.drop i := by
  unfold cutV
  rw [HT.sIx_nat, HT.sIx_none]
  by_cases h : i ≤ xs.length
  · rw [Nat.min_eq_left h, List.take_of_length_le (by rw [List.length_drop]; exact Nat.le_refl _)]
  · rw [Nat.min_eq_right (by omega), List.drop_of_length_le (Nat.le_refl _), List.drop_of_length_le (by omega), List.take_nil]
theorem cut_to {xs : List V} {i : Nat} : cutV xs none (some (i : Int)) = xs.take i := by
  unfold cutV
  rw [HT.sIx_nat, HT.sIx_none, List.drop_zero, Nat.sub_zero]
  by_cases h : i ≤ xs.length
  · rw [Nat.min_eq_left h]
  · rw [Nat.min_eq_right (by omega), List.take_length, List.take_of_length_le (by omega)]
section
variable {P : Program} {w : World} {K : PySem.W.Frag} {mg : Str → Option Value} {base : Heap}
/-! ### _law_with_odd -/
def spWo : Sp := fun vs H Q _ => ∃ (p c a o : Addr) (xs : List V) (x0 x1 : V) (ds : List PyData) (d0 d1 : PyData), vs = [.ref p, .ref a, .ref o] ∧ HandC H p c ∧ H a = some (.lst xs) ∧ a ≠ p ∧ H o = some (.lst [x0, x1]) ∧ o ≠ p ∧ TgAll p H xs ds ∧ Tg p H x0 d0 ∧ Tg p H x1 d1 ∧ xs.length ≤ 100 ∧
  ∀ (i : Nat) (t l : Addr) ys es H', H' t = some (.lst [.ref l, .int i]) → t ≠ p → H' l = some (.lst ys) → l ≠ p → TgAll p H' ys (ds.take i ++ d0 :: es) → (∀ e ∈ es, e ∈ ds ∨ e = d1) → es.length ≤ 2 * ds.length + 1 → i ≤ ds.length → HandC H' p c → But p H H' → Q (.ref t) H'
abbrev s_wo : Stmt := top 65
abbrev N_wo : List Str := ["_law_hand_here", "_law_things", "_law_odds", "_law_at", "_law_rest"]
theorem sc_wo : FnScope N_wo ["_law_hand_here", "_law_things", "_law_odds"] (defScope s_wo) := ⟨rfl, rfl, rfl, by decide +kernel, rfl, by decide +kernel, by decide +kernel⟩
theorem kp_wo (F : At K mg "_law_with_odd" s_wo) (N : Nb mg) (G : Keeps CX0 P w K mg base "_law_draw" 2 ["_law_hand_here", "_law_many"] spDraw) : Keeps CX0 P w K mg base "_law_with_odd" 3 ["_law_hand_here", "_law_things", "_law_odds"] spWo := by
  refine keeps_of F sc_wo (fun _ _ _ _ _ _ us hl => match us, hl with | [_, _, _], _ => rfl) (fun vs H Q E h => ?_) (fun f cdv A outer s H vs Q E hr h => ?_)
  · obtain ⟨p, c, a, o, xs, x0, x1, ds, d0, d1, rfl, _⟩ := h
    rfl
  · obtain ⟨p, c, a, o, xs, x0, x1, ds, d0, d1, rfl, hh, ha, ap, ho, op, tg, t0, t1, hl, k⟩ := h
    refine ⟨_, (pss_cons (ps_set (i := 3) sc_wo.nd rfl (by walk_at "lv") (pe_k G hr (by rfl) pass0 (pa_cons (pv 0) (pa_cons (pe_op op_add (pe_callB call_len_seq (by rfl) N.len (by decide +kernel) (pa_cons (pv 1) pa_nil)) pe_int) pa_nil))))
        (pss_cons (ps_set (i := 4) sc_wo.nd rfl (by walk_at "lv") (pe_slice sl_list (pv 1) (po_some (pv 3)) po_none))
        (C8.pss_cut (ps_if (pt_cmpR op_eq (pe_k G hr (by rfl) pass0 (pa_cons (pv 0) (pa_cons pe_int pa_nil))) pe_int (nomark _)) (pss_one (ps_set (i := 4) sc_wo.nd rfl (by walk_at "lv") (pe_op op_cat (pe_op op_cat (pv 4) (pe_lst (pa_cons (pe_ix ix_list (pv 2) pe_int (fun _ _ => rfl)) pa_nil))) (pv 4)))) pss_nil)
        (pss_one (ps_ret (pe_lst (pa_cons (pe_op op_cat (pe_op op_cat (pe_slice sl_list (pv 1) po_none (po_some (pv 3))) (pe_lst (pa_cons (pe_ix ix_list (pv 2) pe_int (fun _ _ => rfl)) pa_nil))) (pv 4)) (pa_cons (pv 3) pa_nil)))))))), ?_⟩
    have ln := tg.len
    refine ⟨_, rfl, _, rfl, a, xs, rfl, lenA (.inl ha), _, _, rfl, rfl, p, c, _, rfl, hh, ⟨by omega, log_int (by omega) (by omega)⟩, fun i H1 i0 i1 hh1 b1 => ?_⟩
    obtain ⟨i, rfl⟩ : ∃ j : Nat, i = j := ⟨i.toNat, by omega⟩
    have e1 := b1 _ _ ap ha
    refine ⟨_, rfl, _, rfl, _, rfl, a, xs, rfl, SqL.of e1, fun r nr => ?_⟩
    rw [cut_from]
    have s2 := same_new (o := .lst (xs.drop i)) (Same.refl H1) nr
    have hh2 := hh1.same s2
    have b2 : But p H _ := b1.trans (But.of s2)
    have rp : r ≠ p := (hh1.ne nr).1.symm
    refine ⟨fun σ H' => ∃ (r' : Addr) (ys : List V) (es : List PyData), σ = [some (.ref p), some (.ref a), some (.ref o), some (.int i), some (.ref r')] ∧ H' r' = some (.lst ys) ∧ r' ≠ p ∧ TgAll p H' ys es ∧ (∀ e ∈ es, e ∈ ds ∨ e = d1) ∧ es.length ≤ 2 * ds.length + 1 ∧ HandC H' p c ∧ But p H H', ?_, ?_⟩
    · refine ⟨_, rfl, p, c, 2, rfl, hh2, ⟨by decide, by decide⟩, fun z H3 z0 z1 hh3 b3 => ⟨rfl, _, rfl, ?_⟩⟩
      have er := b3 _ _ rp upd_same
      have b13 := b2.trans b3
      have tg3 := TgAll.drop i (TgAll.but b13 _ _ tg)
      have ld : (ds.drop i).length ≤ ds.length := by rw [List.length_drop]; omega
      have lx : (xs.drop i).length ≤ 100 := by rw [List.length_drop]; omega
      refine ite2 (fun _ => ?_) (fun _ => ?_)
      · refine ⟨_, rfl, _, rfl, o, _, _, _, rfl, rfl, SqL.of (b13 _ _ op ho), rfl, (by show 1 ≤ sizeLine; decide), fun u nu => ?_⟩
        have s4 := same_new (o := .lst [x1]) (Same.refl H3) nu
        refine ⟨r, u, _, _, rfl, rfl, s4 _ _ er, upd_same, (by rw [sizeLine_eq]; show _ + 1 ≤ _; omega), fun v nv => ?_⟩
        have s5 := same_new (o := .lst (xs.drop i ++ [x1])) s4 nv
        refine ⟨_, rfl, v, r, _, _, rfl, rfl, upd_same, s5 _ _ er, (by rw [List.length_append, sizeLine_eq]; show _ + 1 + _ ≤ _; omega), fun w nw => ?_⟩
        have s6 := same_new (o := .lst ((xs.drop i ++ [x1]) ++ xs.drop i)) s5 nw
        refine ⟨w, _, ds.drop i ++ [d1] ++ ds.drop i, rfl, upd_same, ((hh3.same s5).ne nw).1.symm, ?_, ?_, ?_, hh3.same s6, b13.trans (But.of s6)⟩
        · exact ((tg3.same s6).app (.cons ((Tg.but b13 _ _ t1).same s6) .nil)).app (tg3.same s6)
        · intro e he
          rcases List.mem_append.1 he with he | he
          · rcases List.mem_append.1 he with he | he
            · exact .inl (List.mem_of_mem_drop he)
            · exact .inr (List.mem_singleton.mp he)
          · exact .inl (List.mem_of_mem_drop he)
        · rw [List.length_append, List.length_append]; show _ + 1 + _ ≤ _; omega
      · exact ⟨r, _, _, rfl, er, rp, tg3, fun e he => .inl (List.mem_of_mem_drop he), by omega, hh3, b13⟩
    · rintro _ H3 ⟨r', ys, es, rfl, er, rp', tge, hes, le, hh3, b3⟩
      have ea := b3 _ _ ap ha
      have lq := tge.len
      refine ⟨_, rfl, _, rfl, _, rfl, a, xs, rfl, SqL.of ea, fun q nq => ?_⟩
      rw [cut_to]
      have s4 := same_new (o := .lst (xs.take i)) (Same.refl H3) nq
      have lt : (xs.take i).length ≤ 100 := by rw [List.length_take]; omega
      refine ⟨_, rfl, o, _, _, _, rfl, rfl, SqL.of (s4 _ _ (b3 _ _ op ho)), rfl, (by show 1 ≤ sizeLine; decide), fun u nu => ?_⟩
      have s5 := same_new (o := .lst [x0]) s4 nu
      refine ⟨q, u, _, _, rfl, rfl, (by rw [upd_ne (ne_of_none upd_same nu)]; exact upd_same), upd_same, (by rw [sizeLine_eq]; show _ + 1 ≤ _; omega), fun v nv => ?_⟩
      have s6 := same_new (o := .lst (xs.take i ++ [x0])) s5 nv
      refine ⟨_, rfl, v, r', _, _, rfl, rfl, upd_same, s6 _ _ er, (by rw [List.length_append, sizeLine_eq]; show _ + 1 + _ ≤ _; omega), fun w nw => ?_⟩
      have s7 := same_new (o := .lst ((xs.take i ++ [x0]) ++ ys)) s6 nw
      refine ⟨_, rfl, (by show 2 ≤ sizeLine; decide), fun t nt => ?_⟩
      have s8 := same_new (o := .lst [V.ref w, V.int i]) s7 nt
      refine k i t w _ es _ upd_same ((hh3.same s7).ne nt).1.symm (by rw [upd_ne (ne_of_none upd_same nt)]; exact upd_same) ((hh3.same s6).ne nw).1.symm ?_ hes le (by omega) (hh3.same s8) (b3.trans (But.of s8))
      have tg8 : TgAll p _ xs ds := TgAll.same s8 (TgAll.but b3 _ _ tg)
      have := ((tg8.take i).app (.cons ((Tg.but b3 _ _ t0).same s8) (tge.same s8) : TgAll p _ (x0 :: ys) (d0 :: es)))
      have ea : (xs.take i ++ [x0]) ++ ys = xs.take i ++ x0 :: ys := by rw [List.append_assoc]; rfl
      exact ea.symm ▸ this
end
end My
set_option Elab.async false
set_option linter.all false
set_option maxRecDepth 100000
set_option maxHeartbeats 8000000
namespace My
open PySem PySem.Spec PyProof.Rows L2
local macro_rules | `(tactic| walk_at "lv") => `(tactic| first | exact Or.inl rfl | exact Or.inr rfl)
theorem RowBad.uniq {f : PyData → Bool} {most : Nat} {d : PyData} {i j : Int} (a : RowBad f most d i) (b : RowBad f most d j) : i = j := by
  rcases a with ⟨a, rfl⟩ | ⟨ds, a, l, rfl⟩ | ⟨ds, k, e, a, l, a3, a4, a5, rfl⟩
  · rcases b with ⟨b, rfl⟩ | ⟨es, b, m, rfl⟩ | ⟨es, k2, e2, b, m, b3, b4, b5, rfl⟩
    · rfl
    · rfl
    · rw [a] at b; cases b
  · rcases b with ⟨b, rfl⟩ | ⟨es, b, m, rfl⟩ | ⟨es, k2, e2, b, m, b3, b4, b5, rfl⟩
    · rfl
    · rfl
    · rw [a] at b; cases b; omega
  · rcases b with ⟨b, rfl⟩ | ⟨es, b, m, rfl⟩ | ⟨es, k2, e2, b, m, b3, b4, b5, rfl⟩
    · rw [a] at b; cases b
    · rw [a] at b; cases b; omega
    · rw [a] at b
      cases b
      rcases Nat.lt_trichotomy k k2 with h | h | h
      · rw [b5 k e h a3] at a4; cases a4
      · rw [h]
      · rw [a5 k2 e2 h b3] at b4; cases b4
theorem row_bad {f : PyData → Bool} {most : Nat} {ds es : List PyData} {d0 : PyData} {i : Nat} (good : ∀ e ∈ ds, f e = true) (b : f d0 = false) (hi : i ≤ ds.length) (he : es.length ≤ 2 * ds.length + 1) (hl : 3 * ds.length + 2 ≤ most) : RowBad f most (.list (ds.take i ++ d0 :: es)) i := by
  refine .inr (.inr ⟨_, i, d0, rfl, ?_, ?_, b, fun k e' hk he' => ?_, rfl⟩)
  · rw [List.length_append, List.length_take, List.length_cons]; omega
  · rw [List.getElem?_append_right (by rw [List.length_take]; omega), List.length_take, Nat.min_eq_left hi, Nat.sub_self]; rfl
  · rw [List.getElem?_append_left (by rw [List.length_take]; omega)] at he'
    exact good e' (List.mem_of_mem_take (List.mem_of_getElem? he'))
theorem mvT_d (m : Mv) : MvT m m.d := by
  cases m with
  | stay => rfl
  | deed L => exact ⟨L.d, rfl, rfl⟩
  | so T => exact ⟨T.d, rfl, rfl⟩
  | not T => exact ⟨T.d, rfl, rfl⟩
theorem ar_ok {n : Int} {r : Ar} (h : ArOk n r) : isArrow n r.d = true := isArrow_of (r := r) ⟨r.m.d, rfl, mvT_d r.m⟩ h.1 h.2.1 h.2.2
theorem st_ok {n : Int} {s : Int × Int} (h : StOk n s) : isStart n (stD s) = true := isStart_of (s := s) rfl h.1 (by have := h.2; omega)
theorem tg_rep {p : Addr} {H : Hp} {x : V} {d : PyData} (h : Tg p H x d) : ∀ n : Nat, TgAll p H (List.replicate n [x]).flatten (List.replicate n d)
  | 0 => .nil
  | n + 1 => by
    rw [List.replicate_succ, List.replicate_succ, List.flatten_cons]
    exact .cons h (tg_rep h n)
theorem small_rep {n k : Nat} {d : PyData} (h : Small k d) : Small (k + 1) (.list (List.replicate n d)) := small_lst fun e he => by rw [(List.mem_replicate.mp he).2]; exact h
theorem shp_odd {k : Nat} {ds es : List PyData} {d0 d1 : PyData} {i : Nat} (h : ∀ d ∈ ds, Small k d) (h0 : Small k d0) (h1 : Small k d1) (he : ∀ e ∈ es, e ∈ ds ∨ e = d1) (hk : k + 1 ≤ 64) : SeqAt.shaped (.list (ds.take i ++ d0 :: es)) = true := (small_lst (n := k) fun d hd => by
  rcases List.mem_append.mp hd with hd | hd
  · exact h d (List.mem_of_mem_take hd)
  · rcases List.mem_cons.1 hd with rfl | hd
    · exact h0
    · rcases he d hd with hd | rfl
      · exact h d hd
      · exact h1).shaped hk
section
variable {P : Program} {w : World} {K : PySem.W.Frag} {mg : Str → Option Value} {base : Heap}
/-- the starts or the arrows are the law's own still, or bad, and due says so -/
def Due (p : Addr) (H : Hp) (due : V) (f : PyData → Bool) (most : Nat) (z : Str) (d : PyData) : Prop := ∃ (t : Addr) (i : Int), due = .ref t ∧ t ≠ p ∧ H t = some (.lst [.str "bad", .str z, .int i, .bl true]) ∧ RowBad f most d i
theorem pick_bad {p c : Addr} {H : Hp} {f : PyData → Bool} {most : Nat} {l : Addr} {x : V} {d : PyData} {n : Nat} {Q : VK} (hh : HandC H p c) (hl : H l = some (.lst (List.replicate n [x]).flatten)) (lp : l ≠ p) (tx : Tg p H x d) (sd : Small 20 d) (hn : most < n)
    (k : ∀ y dy H', Tg p H' y dy → RowBad f most dy (-1) → HandC H' p c → But p H H' → Q y H') : ∀ L, H L = none → ∃ (p' c' t : Addr) (ys : List V), ([V.ref p, V.ref L] : List V) = [.ref p', .ref t] ∧ HandC (upd H L (.lst [.non, .int 0, .str "ab", .ref l])) p' c' ∧ upd H L (.lst [.non, .int 0, .str "ab", .ref l]) t = some (.lst ys) ∧ t ≠ p' ∧ (0 < ys.length ∧ ys.length ≤ 100) ∧ ∀ (i : Nat) (v : V) H', ys[i]? = some v → HandC H' p' c' → But p' (upd H L (.lst [.non, .int 0, .str "ab", .ref l])) H' → Q v H' := by
  intro L hL
  have a0 : Od p c H (fun d => RowBad f most d (-1)) H [] := Od.nil hh
  have a1 := a0.add (d := .none) .non (.inl ⟨rfl, rfl⟩)
  have a2 := a1.add (d := .int 0) (.int 0) (.inl ⟨rfl, rfl⟩)
  have a3 := a2.add (d := .str "ab") (.str "ab" (by decide +kernel)) (.inl ⟨rfl, rfl⟩)
  have a4 := a3.add (d := .list (List.replicate n d)) (.lst hl lp (tg_rep tx n) ((small_rep sd).shaped (by decide))) (.inr (.inl ⟨_, rfl, by rw [List.length_replicate]; exact hn, rfl⟩))
  exact a4.pick hL ⟨by simp, by simp⟩ k
/-! ### _law_refusals_hold -/
def spRf : Sp := fun vs H Q _ => ∃ (p c q l1 l2 : Addr) (n : Int) (ss : List (Int × Int)) (rs : List Ar), vs = [.ref p, .ref q] ∧ HandC H p c ∧ BaseAt p H q l1 l2 n ss rs ∧ ∀ H', HandC H' p c → But p H H' → Q (.bl true) H'
abbrev s_rf : Stmt := top 66
abbrev N_rf : List Str := ["_law_hand_here", "_law_base", "_law_stations", "_law_starts", "_law_arrows", "_law_due", "_law_flags", "_law_odds", "_law_at"]
theorem sc_rf : FnScope N_rf ["_law_hand_here", "_law_base"] (defScope s_rf) := ⟨rfl, rfl, rfl, by decide +kernel, rfl, by decide +kernel, by decide +kernel⟩
theorem Due.but {p : Addr} {H H' : Hp} {due : V} {f : PyData → Bool} {most : Nat} {z : Str} {d : PyData} (b : But p H H') (h : Due p H due f most z d) : Due p H' due f most z d := by
  obtain ⟨t, i, e, tp, h, r⟩ := h
  exact ⟨t, i, e, tp, b _ _ tp h, r⟩
theorem kp_rf (F : At K mg "_law_refusals_hold" s_rf) (N : Nb mg) (Gd : Keeps CX0 P w K mg base "_law_draw" 2 ["_law_hand_here", "_law_many"] spDraw) (Gp : Keeps CX0 P w K mg base "_law_pick" 3 ["_law_hand_here", "_law_things"] spPick)
    (Goa : Keeps CX0 P w K mg base "_law_odd_arrow" 5 ["_law_hand_here", "_law_stations"] spOdA) (Gos : Keeps CX0 P w K mg base "_law_odd_start" 4 ["_law_hand_here", "_law_stations"] spOdS) (Gw : Keeps CX0 P w K mg base "_law_with_odd" 3 ["_law_hand_here", "_law_things", "_law_odds"] spWo)
    (Gt : Keeps CX0 P w K mg base "_law_told" 9 ["_law_stations", "_law_starts", "_law_arrows"] (spLtd K)) : Keeps CX0 P w K mg base "_law_refusals_hold" 10 ["_law_hand_here", "_law_base"] spRf := by
  refine keeps_of F sc_rf (fun _ _ _ _ _ _ us hl => match us, hl with | [_, _], _ => rfl) (fun vs H Q E h => ?_) (fun f cdv A outer s H vs Q E hr h => ?_)
  · obtain ⟨p, c, q, l1, l2, n, ss, rs, rfl, _⟩ := h
    rfl
  · obtain ⟨p, c, q, l1, l2, n, ss, rs, rfl, hh, ba, k⟩ := h
    have h5 : Room 5 (A.deeper (envOfC "_law_refusals_hold" (defScope s_rf) s.heap.objs.size f cdv)) := hr.mono (by decide)
    have h4 : Room 4 (A.deeper (envOfC "_law_refusals_hold" (defScope s_rf) s.heap.objs.size f cdv)) := hr.mono (by decide)
    have h3 : Room 3 (A.deeper (envOfC "_law_refusals_hold" (defScope s_rf) s.heap.objs.size f cdv)) := hr.mono (by decide)
    have h2 : Room 2 (A.deeper (envOfC "_law_refusals_hold" (defScope s_rf) s.heap.objs.size f cdv)) := hr.mono (by decide)
    refine ⟨_, (pss_cons (ps_par3 (i := 2) (j := 3) (l := 4) (by rfl) sc_rf.nd rfl rfl rfl (by decide) (by decide) (by decide) rfl rfl rfl (pa_cons (pe_ix ix_list (pv 1) pe_int (fun _ _ => rfl)) (pa_cons (pe_callTy call_list_of (by rfl) N.list (by decide +kernel) (pa_cons (pe_ix ix_list (pv 1) pe_int (fun _ _ => rfl)) pa_nil)) (pa_cons (pe_callTy call_list_of (by rfl) N.list (by decide +kernel) (pa_cons (pe_ix ix_list (pv 1) pe_int (fun _ _ => rfl)) pa_nil)) pa_nil))) (by rfl))
        (pss_cons (ps_set (i := 5) sc_rf.nd rfl (by walk_at "lv") pe_non)
        (pss_cons (ps_set (i := 6) sc_rf.nd rfl (by walk_at "lv") (pe_op op_add pe_int (pe_k Gd h2 (by rfl) pass0 (pa_cons (pv 0) (pa_cons pe_int pa_nil)))))
        (C8.pss_cut (ps_if (pt_cmpR op_eq (pe_op op_mod (pe_callTy call_int1 (by rfl) N.int (by decide +kernel) (pa_cons (pv 6) pa_nil)) pe_int) pe_int (nomark _)) (pss_cons (ps_set (i := 7) sc_rf.nd rfl (by walk_at "lv") (pe_lst (pa_cons (pe_k Goa h5 (by rfl) pass0 (pa_cons (pv 0) (pa_cons (pv 2) pa_nil))) (pa_cons (pe_k Goa h5 (by rfl) pass0 (pa_cons (pv 0) (pa_cons (pv 2) pa_nil))) pa_nil))))
        (pss_cons (ps_asg (pe_k Gw h3 (by rfl) pass0 (pa_cons (pv 0) (pa_cons (pv 4) (pa_cons (pv 7) pa_nil)))) (pg_tupA (by rfl) (pgs_cons (pg_name (i := 4) sc_rf.nd rfl (by walk_at "lv")) (pgs_cons (pg_name (i := 8) sc_rf.nd rfl (by walk_at "lv")) pgs_nil))))
        (C8.pss_cut (ps_if (pt_cmpR op_eq (pe_k Gd h2 (by rfl) pass0 (pa_cons (pv 0) (pa_cons pe_int pa_nil))) pe_int (nomark _)) (pss_one (ps_par (i := 4) (j := 8) (by rfl) sc_rf.nd rfl rfl (by decide) rfl rfl (pa_cons (pe_k Gp h3 (by rfl) pass0 (pa_cons (pv 0) (pa_cons (pe_lst (pa_cons pe_non (pa_cons pe_int (pa_cons pe_str (pa_cons (pe_op op_rep (pe_lst (pa_cons (pe_tup (pa_cons pe_int (pa_cons (pe_tup (pa_cons pe_str pa_nil)) (pa_cons pe_int pa_nil)))) pa_nil)) pe_int) pa_nil))))) pa_nil))) (pa_cons (pe_un un_neg pe_int) pa_nil)) (by rfl))) pss_nil)
        (pss_one (ps_set (i := 5) sc_rf.nd rfl (by walk_at "lv") (pe_lst (pa_cons pe_str (pa_cons pe_str (pa_cons (pv 8) (pa_cons pe_bl pa_nil)))))))))) pss_nil)
        (C8.pss_cut (ps_if (pt_cmpR op_eq (pe_op op_mod (pe_callTy call_int1 (by rfl) N.int (by decide +kernel) (pa_cons (pe_op op_fdiv (pv 6) pe_int) pa_nil)) pe_int) pe_int (nomark _)) (pss_cons (ps_set (i := 7) sc_rf.nd rfl (by walk_at "lv") (pe_lst (pa_cons (pe_k Gos h4 (by rfl) pass0 (pa_cons (pv 0) (pa_cons (pv 2) pa_nil))) (pa_cons (pe_k Gos h4 (by rfl) pass0 (pa_cons (pv 0) (pa_cons (pv 2) pa_nil))) pa_nil))))
        (pss_cons (ps_asg (pe_k Gw h3 (by rfl) pass0 (pa_cons (pv 0) (pa_cons (pv 3) (pa_cons (pv 7) pa_nil)))) (pg_tupA (by rfl) (pgs_cons (pg_name (i := 3) sc_rf.nd rfl (by walk_at "lv")) (pgs_cons (pg_name (i := 8) sc_rf.nd rfl (by walk_at "lv")) pgs_nil))))
        (C8.pss_cut (ps_if (pt_cmpR op_eq (pe_k Gd h2 (by rfl) pass0 (pa_cons (pv 0) (pa_cons pe_int pa_nil))) pe_int (nomark _)) (pss_one (ps_par (i := 3) (j := 8) (by rfl) sc_rf.nd rfl rfl (by decide) rfl rfl (pa_cons (pe_k Gp h3 (by rfl) pass0 (pa_cons (pv 0) (pa_cons (pe_lst (pa_cons pe_non (pa_cons pe_int (pa_cons pe_str (pa_cons (pe_op op_rep (pe_lst (pa_cons (pe_tup (pa_cons pe_int (pa_cons pe_int pa_nil))) pa_nil)) pe_int) pa_nil))))) pa_nil))) (pa_cons (pe_un un_neg pe_int) pa_nil)) (by rfl))) pss_nil)
        (pss_one (ps_set (i := 5) sc_rf.nd rfl (by walk_at "lv") (pe_lst (pa_cons pe_str (pa_cons pe_str (pa_cons (pv 8) (pa_cons pe_bl pa_nil)))))))))) pss_nil)
        (C8.pss_cut (ps_if (pt_cmpR op_eq (pe_op op_fdiv (pv 6) pe_int) pe_int (nomark _)) (pss_cons (ps_set (i := 2) sc_rf.nd rfl (by walk_at "lv") (pe_k Gp h3 (by rfl) pass0 (pa_cons (pv 0) (pa_cons (pe_lst (pa_cons pe_int (pa_cons (pe_op op_add pe_int (pe_k Gd h2 (by rfl) pass0 (pa_cons (pv 0) (pa_cons (pe_op op_pow pe_int pe_int) pa_nil)))) (pa_cons (pe_un un_neg pe_int) (pa_cons pe_bl (pa_cons pe_non (pa_cons pe_str (pa_cons (pe_lst (pa_cons pe_int pa_nil)) pa_nil)))))))) pa_nil))))
        (pss_one (ps_set (i := 5) sc_rf.nd rfl (by walk_at "lv") (pe_lst (pa_cons pe_str (pa_cons pe_str (pa_cons (pe_un un_neg pe_int) (pa_cons pe_bl pa_nil)))))))) pss_nil)
        (pss_one (ps_ret (pe_cmpR (op_eqD hr.units) (pe_k Gt hr (by rfl) pass0 (pa_cons (pv 2) (pa_cons (pv 3) (pa_cons (pv 4) pa_nil)))) (pv 5) (nomark _)))))))))), ?_⟩
    obtain ⟨xs, es, ixs⟩ := ba.st
    obtain ⟨ys, ey, iys⟩ := ba.ar
    have hpt : ∀ zs, H p ≠ some (.tup zs) := by
      obtain ⟨cs, a1, a2, a3, hp, _⟩ := hh
      intro zs z
      rw [hp] at z
      cases z
    have gs : ∀ e ∈ ss.map stD, isStart n e = true := fun e he => by
      obtain ⟨r, hr, rfl⟩ := List.mem_map.mp he
      exact st_ok (ba.so r hr)
    have ga : ∀ e ∈ rs.map Ar.d, isArrow n e = true := fun e he => by
      obtain ⟨r, hr, rfl⟩ := List.mem_map.mp he
      exact ar_ok (ba.ao r hr)
    have ms : ∀ e ∈ ss.map stD, Small 30 e := fun e he => by
      obtain ⟨r, hr, rfl⟩ := List.mem_map.mp he
      exact (small_st r).mono (by decide)
    have ma : ∀ e ∈ rs.map Ar.d, Small 30 e := fun e he => by
      obtain ⟨r, hr, rfl⟩ := List.mem_map.mp he
      exact (small_ar r).mono (by decide)
    have tgs : TgAll p H xs (ss.map stD) := ImAll.tg hpt _ _ ixs fun e he => (ms e he).shaped (by decide)
    have tga : TgAll p H ys (rs.map Ar.d) := ImAll.tg hpt _ _ iys fun e he => (ma e he).shaped (by decide)
    have lss : (ss.map stD).length ≤ 3 := by rw [List.length_map]; exact ba.sl
    have lrs : (rs.map Ar.d).length ≤ 14 := by rw [List.length_map]; exact ba.al
    have lxs := tgs.len
    have lys := tga.len
    have nb := ba.nb
    have hq := SqL.of (K := K) ba.e
    refine ⟨_, rfl, q, _, _, _, rfl, rfl, hq, rfl, _, rfl, q, _, _, _, rfl, rfl, hq, rfl, l1, xs, rfl, .inl (SqL.of es), fun a1 n1 => ?_⟩
    have s1 := same_new (o := .lst xs) (Same.refl H) n1
    refine ⟨_, rfl, q, _, _, _, rfl, rfl, SqL.of (s1 _ _ ba.e), rfl, l2, ys, rfl, .inl (SqL.of (s1 _ _ ey)), fun a2 n2 => ?_⟩
    have s2 := same_new (o := .lst ys) s1 n2
    have a1p : a1 ≠ p := (hh.ne n1).1.symm
    have a2p : a2 ≠ p := ((hh.same s1).ne n2).1.symm
    refine ⟨_, _, _, rfl, _, rfl, p, c, 7, rfl, hh.same s2, ⟨by decide, by decide⟩, fun fr H3 f0 f1 hh3 b3 => ⟨_, _, rfl, rfl, ?_⟩⟩
    have b03 : But p H H3 := (But.of s2).trans b3
    have e1 : H3 a1 = some (.lst xs) := b3 _ _ a1p (by rw [upd_ne (ne_of_none upd_same n2)]; exact upd_same)
    have e2 : H3 a2 = some (.lst ys) := b3 _ _ a2p upd_same
    have tg3s := TgAll.but b03 _ _ tgs
    have tg3a := TgAll.but b03 _ _ tga
    have hfl1 : 1 ≤ 1 + fr ∧ 1 + fr ≤ 7 := by omega
    have shs : SeqAt.shaped (.list (ss.map stD)) = true := (small_lst ms).shaped (by decide)
    have sha : SeqAt.shaped (.list (rs.map Ar.d)) = true := (small_lst ma).shaped (by decide)
    refine ⟨fun σ H4 => ∃ (y due : V) (dy : PyData) (o7 o8 : Option V), σ = [some (.ref p), some (.ref q), some (.int n), some (.ref a1), some y, some due, some (.int (1 + fr)), o7, o8] ∧ Tg p H4 y dy ∧ HandC H4 p c ∧ But p H3 H4 ∧
      (((1 + fr) % 2 ≠ 1 ∧ ∃ es, RowGood (isArrow n) 4000 dy es) ∨ Due p H4 due (isArrow n) 4000 "arrows" dy), ?_, ?_⟩
    · refine ⟨_, rfl, .inl ⟨_, rfl, _, _, rfl, rfl, (by show (0 : Int) < 2; decide), rfl, _, rfl, ite2 (fun _ => ?_) (fun hf => ?_)⟩⟩
      · refine ⟨_, rfl, _, rfl, p, c, n, rfl, hh3, nb.1, fun x0 d0 H5 t0 o0 hh5 b5 => ⟨_, rfl, _, rfl, p, c, n, rfl, hh5, nb.1, fun x1 d1 H6 t1 o1 hh6 b6 => ⟨(by show 2 ≤ sizeLine; decide), fun o no => ?_⟩⟩⟩
        have s6 := same_new (o := .lst [x0, x1]) (Same.refl H6) no
        have b36 : But p H3 _ := (b5.trans b6).trans (But.of s6)
        refine ⟨_, rfl, _, rfl, _, rfl, p, c, a2, o, ys, x0, x1, rs.map Ar.d, d0, d1, rfl, hh6.same s6, b36 _ _ a2p e2, a2p, upd_same, (hh6.ne no).1.symm, TgAll.but b36 _ _ tg3a, (Tg.but b6 _ _ t0).same s6, t1.same s6, by omega, fun i t l zs es H7 et tp el lp tz hes le hi hh7 b7 => ?_⟩
        refine ⟨t, _, rfl, .inl et, rfl, _, _, rfl, _, _, rfl, rfl, ?_⟩
        have b37 := b36.trans b7
        refine ⟨fun σ H8 => ∃ (y : V) (dy : PyData) (j : Int), σ = [some (.ref p), some (.ref q), some (.int n), some (.ref a1), some y, some .non, some (.int (1 + fr)), some (.ref o), some (.int j)] ∧ Tg p H8 y dy ∧ RowBad (isArrow n) 4000 dy j ∧ HandC H8 p c ∧ But p H3 H8, ?_, ?_⟩
        · refine ⟨_, rfl, p, c, 4, rfl, hh7, ⟨by decide, by decide⟩, fun z H8 z0 z1 hh8 b8 => ⟨rfl, _, rfl, ite2 (fun _ => ?_) (fun _ => ?_)⟩⟩
          · refine ⟨_, rfl, (by show 1 ≤ sizeLine; decide), fun u1 nu1 => ⟨(by show 3 ≤ sizeLine; decide), fun u2 nu2 => ⟨(by show 1 ≤ sizeLine; decide), fun u3 nu3 => ?_⟩⟩⟩
            have r1 := same_new (o := .tup [V.str "stay"]) (Same.refl H8) nu1
            have r2 := same_new (o := .tup [V.int 0, V.ref u1, V.int 0]) r1 nu2
            have r3 := same_new (o := .lst [V.ref u2]) r2 nu3
            refine ⟨u3, 4001, _, rfl, rfl, upd_same, by decide, by decide, (by rw [sizeLine_eq]; show 1 * 4001 ≤ _; omega), fun u4 nu4 => ⟨(by show 4 ≤ sizeLine; decide), fun L hL => ?_⟩⟩
            have r4 := same_new (o := .lst (List.replicate (4001 : Int).toNat [V.ref u2]).flatten) r3 nu4
            have u1p := (hh8.ne nu1).1.symm
            have u2p := ((hh8.same r1).ne nu2).1.symm
            refine pick_bad (n := (4001 : Int).toNat) (d := .tuple [.int 0, .tuple [.str "stay"], .int 0]) (f := isArrow n) (most := 4000) (hh8.same r4) upd_same ((hh8.same r3).ne nu4).1.symm ?_ ⟨by kernel_rfl, Nat.le_of_ble_eq_true (by kernel_rfl)⟩ (by decide) (fun y dy H9 ty rb hh9 b9 => ?_) L hL
            · have v3 : upd (upd H8 u1 (.tup [V.str "stay"])) u2 (.tup [V.int 0, V.ref u1, V.int 0]) u2 = some (.tup [V.int 0, V.ref u1, V.int 0]) := upd_same
              have w2 := same_new (o := .tup [V.int 0, V.ref u1, V.int 0]) (Same.refl _) nu2
              have w3 := same_new (o := .lst [V.ref u2]) (Same.refl _) nu3
              have w4 := same_new (o := .lst (List.replicate (4001 : Int).toNat [V.ref u2]).flatten) (Same.refl _) nu4
              exact .tup (w4 _ _ (w3 _ _ v3)) u2p (.cons (.int _) (.cons (.tup (w4 _ _ (w3 _ _ (w2 _ _ upd_same))) u1p (.cons (.str _ (by decide +kernel)) .nil) (by kernel_rfl)) (.cons (.int _) .nil))) (by kernel_rfl)
            · refine ⟨_, rfl, _, _, rfl, y, dy, -1, rfl, ty, rb, hh9, (b37.trans b8).trans ((But.of r4).trans b9)⟩
          · exact ⟨.ref l, _, i, rfl, Tg.but b8 _ _ (.lst el lp tz (shp_odd ma (o0.2.mono (by decide)) (o1.2.mono (by decide)) hes (by decide))), row_bad ga o0.1 hi le (by omega), hh8, b37.trans b8⟩
        · rintro _ H8 ⟨y, dy, j, rfl, ty, rb, hh8, b8⟩
          refine ⟨_, rfl, (by show 4 ≤ sizeLine; decide), fun t nt => ?_⟩
          have s8 := same_new (o := .lst [V.str "bad", V.str "arrows", V.int j, V.bl true]) (Same.refl H8) nt
          exact ⟨y, .ref t, dy, _, _, rfl, ty.same s8, hh8.same s8, b8.trans (But.of s8), .inr ⟨t, j, rfl, (hh8.ne nt).1.symm, upd_same, rb⟩⟩
      · exact ⟨.ref a2, .non, _, none, none, rfl, .lst e2 a2p tg3a sha, hh3, But.refl p H3, .inl ⟨fun z => hf (decide_eq_true (congrArg V.int z)), _, rfl, by omega, ga⟩⟩
    rintro _ H4 ⟨y, due, dy, o7, o8, rfl, ty, hh4, b4, dn1⟩
    refine ⟨fun σ H5 => ∃ (x y due : V) (dx dy : PyData) (o7 o8 : Option V), σ = [some (.ref p), some (.ref q), some (.int n), some x, some y, some due, some (.int (1 + fr)), o7, o8] ∧ Tg p H5 x dx ∧ Tg p H5 y dy ∧ HandC H5 p c ∧ But p H3 H5 ∧
      (((1 + fr) % 2 ≠ 1 ∧ (1 + fr) / 2 % 2 ≠ 1) ∨ ((∃ ds, RowGood (isStart n) 60 dx ds) ∧ Due p H5 due (isArrow n) 4000 "arrows" dy) ∨ Due p H5 due (isStart n) 60 "starts" dx), ?_, ?_⟩
    · refine ⟨_, rfl, _, _, rfl, rfl, (by show (0 : Int) < 2 ∧ (2 : Int) < 1073741824; decide), .inl ⟨_, rfl, _, _, rfl, rfl, (by show (0 : Int) < 2; decide), rfl, _, rfl, ite2 (fun _ => ?_) (fun hf => ?_)⟩⟩
      · refine ⟨_, rfl, _, rfl, p, c, n, rfl, hh4, nb.1, fun x0 d0 H5 t0 o0 hh5 b5 => ⟨_, rfl, _, rfl, p, c, n, rfl, hh5, nb.1, fun x1 d1 H6 t1 o1 hh6 b6 => ⟨(by show 2 ≤ sizeLine; decide), fun o no => ?_⟩⟩⟩
        have s6 := same_new (o := .lst [x0, x1]) (Same.refl H6) no
        have b46 : But p H4 _ := (b5.trans b6).trans (But.of s6)
        have b36 : But p H3 _ := b4.trans b46
        refine ⟨_, rfl, _, rfl, _, rfl, p, c, a1, o, xs, x0, x1, ss.map stD, d0, d1, rfl, hh6.same s6, b36 _ _ a1p e1, a1p, upd_same, (hh6.ne no).1.symm, TgAll.but b36 _ _ tg3s, (Tg.but b6 _ _ t0).same s6, t1.same s6, by omega, fun i t l zs es H7 et tp el lp tz hes le hi hh7 b7 => ?_⟩
        refine ⟨t, _, rfl, .inl et, rfl, _, _, rfl, _, _, rfl, rfl, ?_⟩
        have b47 := b46.trans b7
        refine ⟨fun σ H8 => ∃ (x : V) (dx : PyData) (j : Int), σ = [some (.ref p), some (.ref q), some (.int n), some x, some y, some due, some (.int (1 + fr)), some (.ref o), some (.int j)] ∧ Tg p H8 x dx ∧ RowBad (isStart n) 60 dx j ∧ HandC H8 p c ∧ But p H4 H8, ?_, ?_⟩
        · refine ⟨_, rfl, p, c, 4, rfl, hh7, ⟨by decide, by decide⟩, fun z H8 z0 z1 hh8 b8 => ⟨rfl, _, rfl, ite2 (fun _ => ?_) (fun _ => ?_)⟩⟩
          · refine ⟨_, rfl, (by show 2 ≤ sizeLine; decide), fun u2 nu2 => ⟨(by show 1 ≤ sizeLine; decide), fun u3 nu3 => ?_⟩⟩
            have r2 := same_new (o := .tup [V.int 0, V.int 0]) (Same.refl H8) nu2
            have r3 := same_new (o := .lst [V.ref u2]) r2 nu3
            refine ⟨u3, 61, _, rfl, rfl, upd_same, by decide, by decide, (by rw [sizeLine_eq]; show 1 * 61 ≤ _; omega), fun u4 nu4 => ⟨(by show 4 ≤ sizeLine; decide), fun L hL => ?_⟩⟩
            have r4 := same_new (o := .lst (List.replicate (61 : Int).toNat [V.ref u2]).flatten) r3 nu4
            have u2p := (hh8.ne nu2).1.symm
            refine pick_bad (n := (61 : Int).toNat) (d := .tuple [.int 0, .int 0]) (f := isStart n) (most := 60) (hh8.same r4) upd_same ((hh8.same r3).ne nu4).1.symm ?_ ⟨by kernel_rfl, Nat.le_of_ble_eq_true (by kernel_rfl)⟩ (by decide) (fun x dx H9 tx rb hh9 b9 => ?_) L hL
            · have w3 := same_new (o := .lst [V.ref u2]) (Same.refl _) nu3
              have w4 := same_new (o := .lst (List.replicate (61 : Int).toNat [V.ref u2]).flatten) (Same.refl _) nu4
              exact .tup (w4 _ _ (w3 _ _ upd_same)) u2p (.cons (.int _) (.cons (.int _) .nil)) (by kernel_rfl)
            · refine ⟨_, rfl, _, _, rfl, x, dx, -1, rfl, tx, rb, hh9, (b47.trans b8).trans ((But.of r4).trans b9)⟩
          · exact ⟨.ref l, _, i, rfl, Tg.but b8 _ _ (.lst el lp tz (shp_odd ms (o0.2.mono (by decide)) (o1.2.mono (by decide)) hes (by decide))), row_bad gs o0.1 hi le (by omega), hh8, b47.trans b8⟩
        · rintro _ H8 ⟨x, dx, j, rfl, tx, rb, hh8, b8⟩
          refine ⟨_, rfl, (by show 4 ≤ sizeLine; decide), fun t nt => ?_⟩
          have s8 := same_new (o := .lst [V.str "bad", V.str "starts", V.int j, V.bl true]) (Same.refl H8) nt
          exact ⟨x, y, .ref t, dx, dy, _, _, rfl, tx.same s8, (Tg.but b8 _ _ ty).same s8, hh8.same s8, (b4.trans b8).trans (But.of s8), .inr (.inr ⟨t, j, rfl, (hh8.ne nt).1.symm, upd_same, rb⟩)⟩
      · have gst : ∃ ds, RowGood (isStart n) 60 (.list (ss.map stD)) ds := ⟨_, rfl, by omega, gs⟩
        refine ⟨.ref a1, y, due, _, dy, _, _, rfl, .lst (b4 _ _ a1p e1) a1p (TgAll.but b4 _ _ tg3s) shs, ty, hh4, b4, ?_⟩
        rcases dn1 with ⟨hf2, _⟩ | dn1
        · exact .inl ⟨hf2, fun z => hf (decide_eq_true (congrArg V.int z))⟩
        · exact .inr (.inl ⟨gst, dn1⟩)
    rintro _ H5 ⟨x, y, due, dx, dy, o7, o8, rfl, tx, ty, hh5, b5, dn2⟩
    refine ⟨fun σ H6 => ∃ (xn x y : V) (t : Addr) (z : Str) (i : Int) (dn dx dy : PyData) (o6 o7 o8 : Option V), σ = [some (.ref p), some (.ref q), some xn, some x, some y, some (.ref t), o6, o7, o8] ∧ Tg p H6 xn dn ∧ Tg p H6 x dx ∧ Tg p H6 y dy ∧ H6 t = some (.lst [.str "bad", .str z, .int i, .bl true]) ∧ HandC H6 p c ∧ But p H3 H6 ∧
      SeqAt.shaped (.list [.str "bad", .str z, .int i, .bool true]) = true ∧ MachEnd K (fun z' i' => z' = z ∧ i' = i) (fun _ _ _ => False) dn dx dy, ?_, ?_⟩
    · refine ⟨_, rfl, _, _, rfl, rfl, (by show (0 : Int) < 4 ∧ (4 : Int) < 1073741824; decide), rfl, _, rfl, ite2 (fun _ => ?_) (fun hf => ?_)⟩
      · refine ⟨_, rfl, _, rfl, _, _, rfl, rfl, ⟨by decide, by decide, by decide⟩, p, c, _, rfl, hh5, ⟨by decide, by decide +kernel⟩, fun r H6 r0 r1 hh6 b6 => ⟨_, _, rfl, rfl, _, rfl, (by show 1 ≤ sizeLine; decide), fun l nl => ⟨(by show 7 ≤ sizeLine; decide), fun L nL => ?_⟩⟩⟩
        have s7 := same_new (o := .lst [V.int 2]) (Same.refl H6) nl
        have a0 : Od p c H5 (fun d => wDd 1 200 d = false) _ [] := (Od.nil hh5).but (b6.trans (But.of s7)) (hh6.same s7)
        have a1 := a0.add (d := .int 0) (.int 0) (by kernel_rfl)
        have a2 := a1.add (d := .int (201 + r)) (.int _) (wDd_no (by omega))
        have a3 := a2.add (d := .int (-1)) (.int (-1)) (by kernel_rfl)
        have a4 := a3.add (d := .bool true) (.bl true) (by kernel_rfl)
        have a5 := a4.add (d := .none) .non (by kernel_rfl)
        have a6 := a5.add (d := .str "2") (.str "2" (by decide +kernel)) (by kernel_rfl)
        have a7 := a6.add (x := .ref l) (d := .list [.int 2]) (.lst upd_same (hh6.ne nl).1.symm (.cons (.int _) .nil) (by kernel_rfl)) (by kernel_rfl)
        refine a7.pick nL ⟨by simp, by simp⟩ fun xn dn H8 tn wb hh8 b8 => ?_
        refine ⟨_, rfl, (by show 4 ≤ sizeLine; decide), fun t nt => ?_⟩
        have s8 := same_new (o := .lst [V.str "bad", V.str "stations", V.int (-1), V.bl true]) (Same.refl H8) nt
        refine ⟨xn, x, y, t, _, _, dn, dx, dy, _, _, _, rfl, tn.same s8, (Tg.but b8 _ _ tx).same s8, (Tg.but b8 _ _ ty).same s8, upd_same, hh8.same s8, (b5.trans b8).trans (But.of s8), by kernel_rfl, fun _ => ⟨rfl, rfl⟩, fun n' en n1 n2 => ?_⟩
        subst en
        exact absurd ((wDd_int ⟨n1, n2⟩).symm.trans wb) (fun z => Bool.noConfusion z)
      · have f4 : (1 + fr) / 4 ≠ 1 := fun z => hf (decide_eq_true (congrArg V.int z))
        have w1 : wDd 1 200 (.int n) = true := wDd_int (by omega)
        rcases dn2 with ⟨d1, d2⟩ | ⟨⟨ds, gd⟩, t, i, rfl, tp, et, rb⟩ | ⟨t, i, rfl, tp, et, rb⟩
        · omega
        · exact ⟨.int n, x, y, t, _, i, _, dx, dy, _, _, _, rfl, .int n, tx, ty, et, hh5, b5, by kernel_rfl, fun z => absurd (z.symm.trans w1) Bool.false_ne_true, fun n' en _ _ => by
            cases en
            exact ⟨fun j rj => (RowBad.no gd rj).elim, fun es ge => ⟨fun j rj => ⟨rfl, rj.uniq rb⟩, fun es' ge' => RowBad.no ge' rb⟩⟩⟩
        · exact ⟨.int n, x, y, t, _, i, _, dx, dy, _, _, _, rfl, .int n, tx, ty, et, hh5, b5, by kernel_rfl, fun z => absurd (z.symm.trans w1) Bool.false_ne_true, fun n' en _ _ => by
            cases en
            exact ⟨fun j rj => ⟨rfl, rj.uniq rb⟩, fun es ge => (RowBad.no ge rb).elim⟩⟩
    · rintro _ H6 ⟨xn, x, y, t, z, i, dn, dx, dy, o6, o7, o8, rfl, tn, tx, ty, et, hh6, b6, sz, me⟩
      obtain ⟨cs, a1, a2, a3, hp, _⟩ := id hh6
      refine ⟨_, rfl, _, rfl, _, rfl, p, _, xn, x, y, dn, dx, dy, rfl, hp, tn, tx, ty, me.mono (fun z' i' h => ?_) (fun _ _ _ h => h.elim)⟩
      obtain ⟨rfl, rfl⟩ := h
      intro t' H7 s7 et'
      have dd : ∀ t, H7 t = some (.lst [.str "bad", .str z', .int i', .bl true]) → Dp K H7 (.ref t) (.list [.str "bad", .str z', .int i', .bool true]) := fun t e => .lst (SqL.of e) (.cons (.str _) (.cons (.str _) (.cons (.int _) (.cons (.bl _) .nil))))
      refine ⟨_, rfl, _, _, dd _ et', dd _ (s7 _ _ et), sz, sz, ?_⟩
      rw [shp_refl sz]
      exact k _ (hh6.same s7) ((b03.trans b6).trans (But.of s7))
end
end My
set_option Elab.async false
set_option linter.all false
set_option maxRecDepth 100000
set_option maxHeartbeats 8000000
namespace My
open PySem PySem.Spec PyProof.Rows L2
local macro_rules | `(tactic| walk_at "lv") => `(tactic| first | exact Or.inl rfl | exact Or.inr rfl)
def gS (i : Nat) : List (Int × Int) := (List.range i).map fun k : Nat => (199 - (k : Int), 1000 - 33 * (k : Int))
theorem gS_succ (i : Nat) : gS (i + 1) = gS i ++ [(199 - (i : Int), 1000 - 33 * (i : Int))] := by
  unfold gS
  rw [List.range_succ, List.map_append]
  rfl
theorem gS_good : ∀ e ∈ (gS 60).map stD, isStart 200 e = true := fun e he => by
  obtain ⟨s, hs, rfl⟩ := List.mem_map.mp he
  obtain ⟨k, hk, rfl⟩ := List.mem_map.mp hs
  have hk := List.mem_range.mp hk
  exact isStart_of (s := (199 - (k : Int), 1000 - 33 * (k : Int))) rfl ⟨by show 0 ≤ 199 - (k : Int); omega, by show 199 - (k : Int) < 200; omega⟩ ⟨by show -1000 ≤ 1000 - 33 * (k : Int); omega, by show 1000 - 33 * (k : Int) ≤ 1000; omega⟩
theorem st_back (ss : List (Int × Int)) : (ss.map stD).map stOf = ss := by
  induction ss with
  | nil => rfl
  | cons s ss ih => rw [List.map_cons, List.map_cons, ih, stOf_of (d := stD s) (s := s) rfl]
theorem ar_back (rs : List Ar) : (rs.map Ar.d).map arOf = rs := by
  induction rs with
  | nil => rfl
  | cons r rs ih => rw [List.map_cons, List.map_cons, ih, arOf_of (d := r.d) (r := r) ⟨r.m.d, rfl, mvT_d r.m⟩]
theorem shp_told (n : Int) (ss : List (Int × Int)) (rs : List Ar) : SeqAt.shaped (.list [.str "good", .int n, startsD ss, arrowsD rs]) = true := (small_lst (n := 9) fun d hd => by
  rcases List.mem_cons.1 hd with rfl | hd
  · exact ⟨by kernel_rfl, Nat.le_of_ble_eq_true (by kernel_rfl)⟩
  · rcases List.mem_cons.1 hd with rfl | hd
    · exact ⟨by kernel_rfl, Nat.le_of_ble_eq_true (by kernel_rfl)⟩
    · rcases List.mem_cons.1 hd with rfl | hd
      · exact small_tup (n := 8) fun d hd => by
          obtain ⟨s, _, rfl⟩ := List.mem_map.mp hd
          exact small_st s
      · rw [List.mem_singleton.mp hd]
        exact small_tup (n := 8) fun d hd => by
          obtain ⟨s, _, rfl⟩ := List.mem_map.mp hd
          exact small_ar s).shaped (by decide)
section
variable {P : Program} {w : World} {K : PySem.W.Frag} {mg : Str → Option Value} {base : Heap}
theorem dp_told {H : Hp} {t a b : Addr} {n : Int} {ss : List (Int × Int)} {rs : List Ar} (e : H t = some (.lst [.str "good", .int n, .ref a, .ref b])) (ha : Dp K H (.ref a) (startsD ss)) (hb : Dp K H (.ref b) (arrowsD rs)) : Dp K H (.ref t) (.list [.str "good", .int n, startsD ss, arrowsD rs]) :=
  .lst (SqL.of e) (.cons (.str _) (.cons (.int _) (.cons ha (.cons hb .nil))))
/-! ### _law_great_holds -/
def spGh : Sp := fun vs H Q _ => ∃ (p c : Addr), vs = [.ref p] ∧ HandC H p c ∧ ∀ H', HandC H' p c → But p H H' → Q (.bl true) H'
abbrev s_gh : Stmt := top 67
abbrev N_gh : List Str := ["_law_hand_here", "_law_starts", "_law_arrows", "_law_k"]
theorem sc_gh : FnScope N_gh ["_law_hand_here"] (defScope s_gh) := ⟨rfl, rfl, rfl, by decide +kernel, rfl, by decide +kernel, by decide +kernel⟩
theorem kp_gh (F : At K mg "_law_great_holds" s_gh) (N : Nb mg) (Gp : Keeps CX0 P w K mg base "_law_pick" 3 ["_law_hand_here", "_law_things"] spPick) (Gt : Keeps CX0 P w K mg base "_law_told" 9 ["_law_stations", "_law_starts", "_law_arrows"] (spLtd K)) :
    Keeps CX0 P w K mg base "_law_great_holds" 10 ["_law_hand_here"] spGh := by
  refine keeps_of F sc_gh (fun _ _ _ _ _ _ us hl => match us, hl with | [_], _ => rfl) (fun vs H Q E h => ?_) (fun f cdv A outer s H vs Q E hr h => ?_)
  · obtain ⟨p, c, rfl, _⟩ := h
    rfl
  · obtain ⟨p, c, rfl, hh, k⟩ := h
    have h3 : Room 3 (A.deeper (envOfC "_law_great_holds" (defScope s_gh) s.heap.objs.size f cdv)) := hr.mono (by decide)
    refine ⟨_, (pss_cons (ps_setLc (i := 1) (own := [("_law_k", 3)]) (g := gName 3) (tt := tYes) rfl sc_gh.nd rfl rfl (sw_true rfl rfl rfl (by decide +kernel)) (pi_range1 (by rfl) N.range (pa_cons pe_int pa_nil)) (blkOk_by (N := N_gh) (sc := defScope s_gh) (by decide +kernel)) (fun _ _ _ _ _ => (pg_name (i := 3) sc_gh.nd rfl (by walk_at "lv"))) (fun _ _ _ _ _ => pts_nil) (fun _ _ _ _ _ => (pe_tup (pa_cons (pe_op op_sub pe_int (pv 3)) (pa_cons (pe_op op_sub pe_int (pe_op op_mul pe_int (pv 3))) pa_nil)))))
        (pss_cons (ps_set (i := 2) sc_gh.nd rfl (by walk_at "lv") (pe_op op_rep (pe_lst (pa_cons (pe_tup (pa_cons pe_int (pa_cons (pe_tup (pa_cons pe_str pa_nil)) (pa_cons pe_int pa_nil)))) pa_nil)) (pe_k Gp h3 (by rfl) pass0 (pa_cons (pv 0) (pa_cons (pe_lst (pa_cons pe_int (pa_cons pe_int pa_nil))) pa_nil)))))
        (pss_one (ps_ret (pe_cmpR (op_eqD hr.units) (pe_k Gt hr (by rfl) pass0 (pa_cons pe_int (pa_cons (pv 1) (pa_cons (pv 2) pa_nil)))) (pe_lst (pa_cons pe_str (pa_cons pe_int (pa_cons (pe_callTy call_tuple_of (by rfl) N.tuple (by decide +kernel) (pa_cons (pv 1) pa_nil)) (pa_cons (pe_callTy call_tuple_of (by rfl) N.tuple (by decide +kernel) (pa_cons (pv 2) pa_nil)) pa_nil))))) (nomark _)))))), ?_⟩
    have hpt : ∀ {H : Hp}, HandC H p c → ∀ zs, H p ≠ some (.tup zs) := by
      rintro H ⟨cs, a1, a2, a3, hp, _⟩ zs z
      rw [hp] at z
      cases z
    refine ⟨60, rfl, by decide, by decide, fun D hD => lc_it walk_range (fun i H3 => Same H H3 ∧ ∃ acc, H3 D = some (.lst acc) ∧ ImAll H3 acc ((gS i).map stD)) ⟨same_new (Same.refl H) hD, [], upd_same, .nil⟩ (fun i H3 _ h => trivial) ?_ ?_⟩
    · rintro i v H3 H4 hi ⟨s3, acc, e3, im⟩ ⟨rfl, rfl⟩
      refine ⟨rfl, _, rfl, _, _, rfl, rfl, _, rfl, _, _, rfl, rfl, .inl ⟨by omega, by omega⟩, _, _, rfl, rfl, (by show 2 ≤ sizeLine; decide), fun t nt => ?_⟩
      have s4 := same_new (o := .tup [V.int (199 - (0 + (i : Int))), V.int (1000 - 33 * (0 + (i : Int)))]) s3 nt
      have w4 := same_new (o := .tup [V.int (199 - (0 + (i : Int))), V.int (1000 - 33 * (0 + (i : Int)))]) (Same.refl H4) nt
      have la := im.len
      rw [List.length_map, show (gS i).length = i by unfold gS; rw [List.length_map, List.length_range]] at la
      have hi : i < 60 := by omega
      have e4 := w4 _ _ e3
      refine ⟨acc, e4, smallB (by omega), same_at s4 hD, _, upd_same, ?_⟩
      rw [gS_succ, List.map_append]
      have kt : Kt H4 _ := (Kt.of w4).trans (Kt.lst (ys := acc ++ [.ref t]) e4)
      refine (im_all_kt kt im).snoc ?_
      rw [show ((199 - (i : Int), 1000 - 33 * (i : Int)) : Int × Int) = (199 - (0 + (i : Int)), 1000 - 33 * (0 + (i : Int))) by rw [Int.zero_add]]
      exact Im.kt (Kt.lst e4) _ _ (.tup upd_same (.cons (.int _) (.cons (.int _) .nil)))
    · rintro H3 ⟨s3, acc, e3, im⟩
      have im : ImAll H3 acc ((gS 60).map stD) := im
      have hh3 := hh.same s3
      have Dp_ : D ≠ p := (hh.ne hD).1.symm
      refine ⟨(by show 1 ≤ sizeLine; decide), fun u1 nu1 => ⟨(by show 3 ≤ sizeLine; decide), fun u2 nu2 => ⟨(by show 1 ≤ sizeLine; decide), fun u3 nu3 => ?_⟩⟩⟩
      have r1 := same_new (o := .tup [V.str "stay"]) (Same.refl H3) nu1
      have r2 := same_new (o := .tup [V.int 0, V.ref u1, V.int 199]) r1 nu2
      have r3 := same_new (o := .lst [V.ref u2]) r2 nu3
      refine ⟨_, rfl, (by show 2 ≤ sizeLine; decide), fun u4 nu4 => ?_⟩
      have r4 := same_new (o := .lst [V.int 1, V.int 4000]) r3 nu4
      refine ⟨p, c, u4, _, rfl, hh3.same r4, upd_same, ((hh3.same r3).ne nu4).1.symm, ⟨by decide, by decide⟩, fun i v H5 hv hh5 b5 => ?_⟩
      obtain ⟨n, rfl, hn⟩ : ∃ n : Nat, v = .int n ∧ n ≤ 4000 := by
        match i, hv with
        | 0, hv => cases hv; exact ⟨1, rfl, by decide⟩
        | 1, hv => cases hv; exact ⟨4000, rfl, by decide⟩
      have b35 : But p H3 H5 := (But.of r4).trans b5
      have u1p := (hh3.ne nu1).1.symm
      have u2p := ((hh3.same r1).ne nu2).1.symm
      have u3p := ((hh3.same r2).ne nu3).1.symm
      have w2 := same_new (o := .tup [V.int 0, V.ref u1, V.int 199]) (Same.refl _) nu2
      have w3 := same_new (o := .lst [V.ref u2]) (Same.refl _) nu3
      have w4 := same_new (o := .lst [V.int 1, V.int 4000]) (Same.refl _) nu4
      have f1 : H5 u1 = some (.tup [.str "stay"]) := b5 _ _ u1p (w4 _ _ (w3 _ _ (w2 _ _ upd_same)))
      have f2 : H5 u2 = some (.tup [.int 0, .ref u1, .int 199]) := b5 _ _ u2p (w4 _ _ (w3 _ _ upd_same))
      have f3 : H5 u3 = some (.lst [.ref u2]) := b5 _ _ u3p (w4 _ _ upd_same)
      have fD : H5 D = some (.lst acc) := b35 _ _ Dp_ e3
      refine ⟨u3, n, _, rfl, rfl, f3, by omega, by omega, (by rw [sizeLine_eq]; show 1 * _ ≤ _; omega), fun u5 nu5 => ?_⟩
      rw [show ((n : Nat) : Int).toNat = n from Int.toNat_natCast n]
      have s6 := same_new (o := .lst (List.replicate n [V.ref u2]).flatten) (Same.refl H5) nu5
      have u5p := (hh5.ne nu5).1.symm
      have hh6 := hh5.same s6
      have b36 := b35.trans (But.of s6)
      have ta : Tg p (upd H5 u5 (.lst (List.replicate n [V.ref u2]).flatten)) (.ref u2) (Ar.d ⟨0, .stay, 199⟩) := .tup (s6 _ _ f2) u2p (.cons (.int _) (.cons (.tup (s6 _ _ f1) u1p (.cons (.str _ (by decide +kernel)) .nil) (by kernel_rfl)) (.cons (.int _) .nil))) (by kernel_rfl)
      have tga := tg_rep ta n
      have rsE : List.replicate n (Ar.d ⟨0, .stay, 199⟩) = (List.replicate n (⟨0, .stay, 199⟩ : Ar)).map Ar.d := List.map_replicate.symm
      have im6 := im_all_kt (Kt.hand hh3 b36) im
      have tgs : TgAll p _ acc ((gS 60).map stD) := ImAll.tg (hpt hh6) _ _ im6 fun e he => by
        obtain ⟨s, _, rfl⟩ := List.mem_map.mp he
        exact (small_st s).shaped (by decide)
      have shs : SeqAt.shaped (.list ((gS 60).map stD)) = true := (small_lst (n := 8) fun e he => by
        obtain ⟨s, _, rfl⟩ := List.mem_map.mp he
        exact small_st s).shaped (by decide)
      have sha : SeqAt.shaped (.list (List.replicate n (Ar.d ⟨0, .stay, 199⟩))) = true := (small_rep (small_ar _)).shaped (by decide)
      have tx : Tg p _ (.ref D) (.list ((gS 60).map stD)) := .lst (b36 _ _ Dp_ e3) Dp_ tgs shs
      have ty : Tg p _ (.ref u5) (.list (List.replicate n (Ar.d ⟨0, .stay, 199⟩))) := .lst upd_same u5p tga sha
      obtain ⟨cs, a1, a2, a3, hp, _⟩ := id hh6
      have ls : ((gS 60).map stD).length = 60 := by rw [List.length_map]; unfold gS; rw [List.length_map, List.length_range]
      have w1 : wDd 1 200 (.int 200) = true := by kernel_rfl
      refine ⟨_, rfl, _, rfl, p, _, .int 200, .ref D, .ref u5, .int 200, _, _, rfl, hp, .int 200, tx, ty, fun z => absurd (z.symm.trans w1) Bool.false_ne_true, fun n' en _ _ => ?_⟩
      cases en
      have gd : RowGood (isStart 200) 60 (.list ((gS 60).map stD)) ((gS 60).map stD) := ⟨rfl, by omega, gS_good⟩
      have ge : RowGood (isArrow 200) 4000 (.list (List.replicate n (Ar.d ⟨0, .stay, 199⟩))) (List.replicate n (Ar.d ⟨0, .stay, 199⟩)) := ⟨rfl, by rw [List.length_replicate]; exact hn, fun e he => by
        rw [(List.mem_replicate.mp he).2]
        kernel_rfl⟩
      refine ⟨fun i hi => (RowBad.no gd hi).elim, fun ds gd' => ⟨fun i hi => (RowBad.no ge hi).elim, fun es ge' => ?_⟩⟩
      obtain rfl := gd'.uniq gd
      obtain rfl := ge'.uniq ge
      rw [st_back, rsE, ar_back]
      intro t a b H7 s7 et ia ib
      have e7 := s7 _ _ (b36 _ _ Dp_ e3)
      have e8 := s7 _ _ (upd_same (H := H5) (a := u5) (o := .lst (List.replicate n [V.ref u2]).flatten))
      have ln := tga.len
      rw [List.length_replicate] at ln
      refine ⟨_, rfl, D, acc, rfl, .inl ⟨SqL.of e7, fun q1 n1 => ?_⟩⟩
      have s8 := same_new (o := .tup acc) (Same.refl H7) n1
      refine ⟨_, rfl, u5, _, rfl, .inl ⟨SqL.of (s8 _ _ e8), fun q2 n2 => ?_⟩⟩
      have s9 := same_new (o := .tup (List.replicate n [V.ref u2]).flatten) s8 n2
      refine ⟨(by show 4 ≤ sizeLine; decide), fun q3 n3 => ?_⟩
      have s10 := same_new (o := .lst [V.str "good", V.int 200, V.ref q1, V.ref q2]) s9 n3
      have v9 := same_new (o := .tup (List.replicate n [V.ref u2]).flatten) (Same.refl _) n2
      have v10 := same_new (o := .lst [V.str "good", V.int 200, V.ref q1, V.ref q2]) (Same.refl _) n3
      have sh := shp_told 200 (gS 60) (List.replicate n (⟨0, .stay, 199⟩ : Ar))
      refine ⟨_, _, dp_told (s10 _ _ et) (Im.dp _ _ (Im.kt (Kt.of s10) _ _ ia)) (Im.dp _ _ (Im.kt (Kt.of s10) _ _ ib)), dp_told upd_same (.tup (SqT.of (v10 _ _ (v9 _ _ upd_same))) ?_) (.tup (SqT.of (v10 _ _ upd_same)) ?_), sh, sh, ?_⟩
      · exact TgAll.dp _ _ (tgs.same (s7.trans s10))
      · rw [← rsE]
        exact TgAll.dp _ _ (tga.same (s7.trans s10))
      · rw [shp_refl sh]
        exact k _ (hh6.same (s7.trans s10)) (((But.of s3).trans b36).trans (But.of (s7.trans s10)))
end
end My
set_option Elab.async false
set_option linter.all false
set_option maxRecDepth 100000
set_option maxHeartbeats 8000000
namespace My
open PySem PySem.Spec PyProof.Rows L2
local macro_rules | `(tactic| walk_at "lv") => `(tactic| first | exact Or.inl rfl | exact Or.inr rfl)
/-! ### a == b by an own __eq__ -/
section
variable {X : Cx} {CX : CXT} {C f : Addr} {n : Nat} {fd : FuncData} {ps : List Str} {sp : Sp} {E : XK}
theorem run_own {pins : List (Addr × Obj)} {σ : L2.St} {H : Hp} {s : Shared} {a b : V} {u v : Value} {Q : VK} (F : FnOk X.prog X.w X.K X.mg X.base CX n f fd ps sp) (hb : Binds X.K fd ps []) (hx : Passes CX X E) (hr : Room n X.A)
    (I : Inv X pins σ H s) (ra : RelV a u) (rb : RelV b v) (h : sp [a, b] H Q E) : wpAny (model X.prog X.w) X.A (call (.ref f) [u, v]) (EP X pins σ Q) X.xe s := by
  have hl := F.len _ _ _ _ h
  refine wpAny_call (codeAny_mono (F.run X.A X.stack s H ⟨[u, v], []⟩ [u, v] [a, b] Q E hr I.env0 (by
    have := hb s [u, v] I.kIn (by simpa using hl)
    simpa using this) (.cons ra (.cons rb .nil)) h) fun r s' hq => ?_)
  cases r with
  | error er => exact hx pins σ H s er s' I hq
  | ok fl =>
    cases fl with
    | ret w =>
      obtain ⟨z, H', I', rz, q⟩ := I.after hq
      exact ⟨z, H', I', rz, q⟩
    | next => exact False.elim hq
    | brk => exact False.elim hq
    | cont => exact False.elim hq
/-- a == b, both instances of the own class at C -/
def rEqOwn (C : Addr) (sp : Sp) (E : XK) : R2 := fun x y H Q => ∃ a b dx dy fs gs, x = .ref a ∧ y = .ref b ∧ H a = some (.ins C dx fs) ∧ H b = some (.ins C dy gs) ∧ sp [.ref a, .ref b] H (fun v H' => ∃ b, v = .bl b ∧ Q (.bl b) H') E
theorem op_eqOwn (F : FnOk X.prog X.w X.K X.mg X.base CX n f fd ps sp) (hs : PySem.W.findIn X.K (.ref C) "__eq__" = some (some (.ref f))) (hf : PySem.W.isFn X.K (.ref f) = true) (hb : Binds X.K fd ps []) (hx : Passes CX X E) (hr : Room n X.A) :
    OpR X (compareOp .Eq) (rEqOwn C sp E) := by
  intro pns s σ H x y v u Q I rx ry h
  obtain ⟨a, b, dx, dy, fs, gs, rfl, rfl, ha, hb', hsp⟩ := h
  cases rx
  cases ry
  have ⟨_, J, _⟩ := ins_get I.hok ha
  have ⟨_, J', _⟩ := ins_get I.hok hb'
  have ⟨_, J, _⟩ := J.look
  have ⟨_, J', _⟩ := J'.look
  obtain ⟨m, hF⟩ := I.fr
  show wpAny (model X.prog X.w) X.A (richCompare .Eq (.ref a) (.ref b)) (EP X pns σ Q) X.xe s
  refine PySem.W.cmp_K (op := .Eq) (tb := .ref C) hr.units0 hF I.ok.mod.kin J J'.type (by simp [PySem.W.notFirst]) hs hf ?_
  refine wpAny_mono (run_own F hb hx hr I (a := .ref a) (b := .ref b) rfl rfl hsp) (fun r s' q => ?_) fun _ _ e => e
  obtain ⟨z, H', I', rz, c, rfl, q⟩ := q
  cases rz
  exact ⟨.bl c, H', I', rfl, q⟩
end
end My
set_option Elab.async false
set_option linter.all false
set_option maxRecDepth 100000
set_option maxHeartbeats 8000000
namespace My
open PySem PySem.Spec PyProof.Rows L2
local macro_rules | `(tactic| walk_at "lv") => `(tactic| first | exact Or.inl rfl | exact Or.inr rfl)
theorem ab20 {v : Int} (h : -20 ≤ v ∧ v ≤ 20) : ab v ≤ 20 := by unfold ab; split <;> omega
theorem nums20 {t : Td} (ok : tdOk t) : ∀ x ∈ tdNums t, ab x ≤ 20 := by
  intro x hx
  rcases t with L | T
  · cases L with
    | set v => rw [List.mem_singleton.mp hx]; exact ab20 ok
    | add v => rw [List.mem_singleton.mp hx]; exact ab20 ok
    | turn => cases hx
    | mod m => rw [List.mem_singleton.mp hx]; have ok : 1 ≤ m ∧ m ≤ 6 := ok; exact ab20 (by omega)
  · cases T with
    | below v => rw [List.mem_singleton.mp hx]; exact ab20 ok
    | is v => rw [List.mem_singleton.mp hx]; exact ab20 ok
    | rest m r =>
      have ok : (1 ≤ m ∧ m ≤ 6) ∧ 0 ≤ r ∧ r < m := ok
      rcases List.mem_cons.1 hx with rfl | hx
      · exact ab20 (by omega)
      · rw [List.mem_singleton.mp hx]; exact ab20 (by omega)
theorem rim_le {n : Int} {ss : List (Int × Int)} {rs : List Ar} {r : Int} (h : IsRim ss rs r) (hs : ∀ s ∈ ss, StOk n s) (hr : ∀ a ∈ rs, a.m.Ok) : r ≤ 20 := by
  have h := h.1
  unfold rimNs at h
  rcases List.mem_append.1 h with h | h
  · rcases List.mem_append.1 h with h | h
    · rw [List.mem_singleton.mp h]; decide
    · obtain ⟨s, h1, rfl⟩ := List.mem_map.mp h
      exact ab20 (hs s h1).2
  · unfold tNums at h
    obtain ⟨t, h1, h2⟩ := List.mem_flatMap.mp h
    obtain ⟨x, h3, rfl⟩ := List.mem_map.mp h2
    exact nums20 (told_ok hr t h1) x h3
/-- starts, arrows as they are given -/
def GvS (p : Addr) (H : Hp) (n : Int) (x : V) (ss : List (Int × Int)) : Prop := ∃ d ds, Tg p H x d ∧ RowGood (isStart n) 60 d ds ∧ ds.map stOf = ss
def GvA (p : Addr) (H : Hp) (n : Int) (x : V) (rs : List Ar) : Prop := ∃ d ds, Tg p H x d ∧ RowGood (isArrow n) 4000 d ds ∧ ds.map arOf = rs
section
variable {K : PySem.W.Frag} {p c q l1 l2 : Addr} {H H' : Hp} {n : Int} {x y : V} {ss : List (Int × Int)} {rs : List Ar}
theorem GvS.but (b : But p H H') (h : GvS p H n x ss) : GvS p H' n x ss := by
  obtain ⟨d, ds, t, g, e⟩ := h
  exact ⟨d, ds, Tg.but b _ _ t, g, e⟩
theorem GvA.but (b : But p H H') (h : GvA p H n x rs) : GvA p H' n x rs := by
  obtain ⟨d, ds, t, g, e⟩ := h
  exact ⟨d, ds, Tg.but b _ _ t, g, e⟩
theorem hand_tup (hh : HandC H p c) : ∀ zs, H p ≠ some (.tup zs) := by
  obtain ⟨cs, a1, a2, a3, hp, _⟩ := hh
  intro zs z
  rw [hp] at z
  cases z
theorem tg_starts {xs : List V} (hh : HandC H p c) (im : ImAll H xs (ss.map stD)) : TgAll p H xs (ss.map stD) := ImAll.tg (hand_tup hh) _ _ im fun e he => by
  obtain ⟨s, _, rfl⟩ := List.mem_map.mp he
  exact (small_st s).shaped (by decide)
theorem tg_arrows {xs : List V} (hh : HandC H p c) (im : ImAll H xs (rs.map Ar.d)) : TgAll p H xs (rs.map Ar.d) := ImAll.tg (hand_tup hh) _ _ im fun e he => by
  obtain ⟨s, _, rfl⟩ := List.mem_map.mp he
  exact (small_ar s).shaped (by decide)
theorem gv_starts {l : Addr} {xs : List V} (hh : HandC H p c) (e : H l = some (.lst xs)) (lp : l ≠ p) (im : ImAll H xs (ss.map stD)) (so : ∀ s ∈ ss, StOk n s) (ln : ss.length ≤ 60) : GvS p H n (.ref l) ss :=
  ⟨_, _, .lst e lp (tg_starts hh im) ((small_lst (n := 8) fun e he => by
    obtain ⟨s, _, rfl⟩ := List.mem_map.mp he
    exact small_st s).shaped (by decide)), ⟨rfl, by rw [List.length_map]; exact ln, fun e he => by
    obtain ⟨s, hs, rfl⟩ := List.mem_map.mp he
    exact st_ok (so s hs)⟩, st_back ss⟩
theorem gv_arrows {l : Addr} {xs : List V} (hh : HandC H p c) (e : H l = some (.lst xs)) (lp : l ≠ p) (im : ImAll H xs (rs.map Ar.d)) (so : ∀ r ∈ rs, ArOk n r) (ln : rs.length ≤ 4000) : GvA p H n (.ref l) rs :=
  ⟨_, _, .lst e lp (tg_arrows hh im) ((small_lst (n := 8) fun e he => by
    obtain ⟨s, _, rfl⟩ := List.mem_map.mp he
    exact small_ar s).shaped (by decide)), ⟨rfl, by rw [List.length_map]; exact ln, fun e he => by
    obtain ⟨s, hs, rfl⟩ := List.mem_map.mp he
    exact ar_ok (so s hs)⟩, ar_back rs⟩
theorem BaseAt.gs (hh : HandC H p c) (ba : BaseAt p H q l1 l2 n ss rs) {n' : Int} (hn : n ≤ n') : GvS p H n' (.ref l1) ss := by
  obtain ⟨xs, e, im⟩ := ba.st
  exact gv_starts hh e ba.sp im (fun s hs => by have := ba.so s hs; exact ⟨by have := this.1; omega, this.2⟩) (by have := ba.sl; omega)
theorem BaseAt.ga (hh : HandC H p c) (ba : BaseAt p H q l1 l2 n ss rs) {n' : Int} (hn : n ≤ n') : GvA p H n' (.ref l2) rs := by
  obtain ⟨xs, e, im⟩ := ba.ar
  exact gv_arrows hh e ba.ap im (fun s hs => by have := ba.ao s hs; exact ⟨this.1, by have := this.2.1; omega, by have := this.2.2; omega⟩) (by have := ba.al; omega)
/-- a Machine is made of them -/
theorem made {E : XK} {Q : Addr → Hp → Prop} (hh : HandC H p c) (hn : 1 ≤ n ∧ n ≤ 200) (gx : GvS p H n x ss) (gy : GvA p H n y rs) (k : ∀ m r H', Same H H' → MachAt (He.ga K "Machine") H' m n ss rs r → Q m H') :
    ∀ m dx, H m = none → H dx = none → dx ≠ m → spMi K (He.ga K "Machine") (.ref m :: ([.int n, x, y] ++ [])) (upd (upd H dx (.own m)) m (.ins (He.ga K "Machine") dx [])) (fun v H2 => v = .non ∧ Q m H2) E := by
  obtain ⟨dx, ds, tx, gd, rfl⟩ := gx
  obtain ⟨dy, es, ty, ge, rfl⟩ := gy
  obtain ⟨cs, a1, a2, a3, hp, _⟩ := id hh
  exact mi_make hp (.int n) tx ty (mach_good hn gd ge k)
/-- and it is told -/
theorem told_good {E : XK} {Q : VK} (hh : HandC H p c) (hn : 1 ≤ n ∧ n ≤ 200) (gx : GvS p H n x ss) (gy : GvA p H n y rs) (k : ∀ t a b H', Same H H' → H' t = some (.lst [.str "good", .int n, .ref a, .ref b]) → Im H' (.ref a) (startsD ss) → Im H' (.ref b) (arrowsD rs) → Q (.ref t) H') :
    spLtd K [.int n, x, y] H Q E := by
  obtain ⟨dx, ds, tx, gd, rfl⟩ := gx
  obtain ⟨dy, es, ty, ge, rfl⟩ := gy
  obtain ⟨cs, a1, a2, a3, hp, _⟩ := id hh
  refine ⟨p, _, _, x, y, _, _, _, rfl, hp, .int n, tx, ty, fun z => absurd (z.symm.trans (wDd_int hn)) Bool.false_ne_true, fun n' en _ _ => ?_⟩
  cases en
  refine ⟨fun i hi => (RowBad.no gd hi).elim, fun ds' gd' => ⟨fun i hi => (RowBad.no ge hi).elim, fun es' ge' => ?_⟩⟩
  obtain rfl := gd'.uniq gd
  obtain rfl := ge'.uniq ge
  exact k
theorem mach_eq {C m m' : Addr} {E : XK} {Q : VK} {r r' : Int} (a : MachAt C H m n ss rs r) (b : MachAt C H m' n ss rs r') (k : Q (.bl true) H) : rEqOwn C (spMe C) E (.ref m) (.ref m') H Q := by
  obtain ⟨dx, a1, a2, a3, e, _⟩ := id a
  obtain ⟨dy, b1, b2, b3, f, _⟩ := id b
  exact ⟨m, m', dx, dy, _, _, rfl, rfl, e, f, m, m', n, n, r, r', ss, ss, rs, rs, rfl, a, b, .inl ⟨rfl, rfl, rfl, true, rfl, k⟩⟩
theorem mach_ne {C m m' : Addr} {E : XK} {Q : VK} {n' r r' : Int} {ss' : List (Int × Int)} {rs' : List Ar} (a : MachAt C H m n ss rs r) (b : MachAt C H m' n' ss' rs' r') (d : n ≠ n' ∨ ss.length ≠ ss'.length ∨ rs.length ≠ rs'.length) (k : Q (.bl false) H) : rEqOwn C (spMe C) E (.ref m) (.ref m') H Q := by
  obtain ⟨dx, a1, a2, a3, e, _⟩ := id a
  obtain ⟨dy, b1, b2, b3, f, _⟩ := id b
  exact ⟨m, m', dx, dy, _, _, rfl, rfl, e, f, m, m', n, n', r, r', ss, ss', rs, rs', rfl, a, b, .inr ⟨d, false, rfl, k⟩⟩
end
end My
set_option Elab.async false
set_option linter.all false
set_option maxRecDepth 100000
set_option maxHeartbeats 8000000
namespace My
open PySem PySem.Spec PyProof.Rows L2
local macro_rules | `(tactic| walk_at "lv") => `(tactic| first | exact Or.inl rfl | exact Or.inr rfl)
/-! ### rows shown by the hand -/
theorem gather {α : Type} {p : Addr} {H : Hp} {R : α → PyData → Prop} {g : PyData → α} (hg : ∀ s d, R s d → g d = s) : ∀ (xs : List V) (l : List α), xs.length = l.length → (∀ (j : Nat) v, xs[j]? = some v → ∃ s d, l[j]? = some s ∧ Tg p H v d ∧ R s d) → ∃ ds, TgAll p H xs ds ∧ ds.map g = l ∧ ∀ e ∈ ds, ∃ s ∈ l, R s e
  | [], [], _, _ => ⟨[], .nil, rfl, fun e he => by cases he⟩
  | [], _ :: _, h, _  => by cases h
  | _ :: _, [], h, _  => by cases h
  | x :: xs, s :: l, h, k => by
    obtain ⟨s', d, e, t, r⟩ := k 0 x rfl
    cases e
    obtain ⟨ds, t2, e2, r2⟩ := gather hg xs l (Nat.succ.inj h) fun j v e => k (j + 1) v e
    refine ⟨d :: ds, .cons t t2, by rw [List.map_cons, hg _ _ r, e2], fun e he => ?_⟩
    rcases List.mem_cons.1 he with rfl | he
    · exact ⟨s, List.mem_cons_self, r⟩
    · obtain ⟨q, h1, h2⟩ := r2 e he
      exact ⟨q, List.mem_cons_of_mem _ h1, h2⟩
structure ShSt {α : Type} (p c D : Addr) (H0 : Hp) (rw : Hp → α → List V → Prop) (l : List α) (i : Nat) (H : Hp) : Prop where
  h0 : HandC H0 p c
  nD : H0 D = none
  hh : HandC H p c
  b : But p H0 H
  x : ∃ acc, H D = some (.lst acc) ∧ acc.length = i ∧ ∀ (j : Nat) v, acc[j]? = some v → ∃ b s ys, v = .ref b ∧ l[j]? = some s ∧ b ≠ p ∧ b ≠ D ∧ SqA H b ys ∧ rw H s ys
section
variable {α : Type} {p c D : Addr} {H0 H H' : Hp} {rw : Hp → α → List V → Prop} {l : List α} {i : Nat}
theorem ShSt.init (h0 : HandC H0 p c) (nD : H0 D = none) : ShSt p c D H0 rw l 0 (upd H0 D (.lst [])) :=
  ⟨h0, nD, h0.same (same_new (Same.refl H0) nD), But.of (same_new (Same.refl H0) nD), [], upd_same, rfl, fun j v e => by simp at e⟩
theorem ShSt.step (a : ShSt p c D H0 rw l i H) (hk : ∀ H H' s ys, Kt H H' → rw H s ys → rw H' s ys) (hn : ∀ H s ys, rw H s ys → ∃ z r, ys = .int z :: r) {b : Addr} {s : α} {ys : List V} (sq : SqA H' b ys) (bp : b ≠ p) (hh : HandC H' p c) (bt : But p H H') (es : l[i]? = some s) (hw : rw H' s ys) (hl : l.length ≤ 4000) :
    ∃ acc, H' D = some (.lst acc) ∧ acc.length < sizeLine ∧ ShSt p c D H0 rw l (i + 1) (upd H' D (.lst (acc ++ [.ref b]))) := by
  obtain ⟨acc, e, ln, ha⟩ := a.x
  have Dp_ : D ≠ p := (a.h0.ne a.nD).1.symm
  have cD : c ≠ D := (a.h0.ne a.nD).2
  have e' := bt _ _ Dp_ e
  obtain ⟨hi, _⟩ := List.getElem?_eq_some_iff.mp es
  have bD : b ≠ D := fun z => by
    subst z
    rcases sq with q | q
    · rw [e'] at q
      cases q
      obtain ⟨z, r, rfl⟩ := hn _ _ _ hw
      obtain ⟨_, _, _, z, _⟩ := ha 0 (.int z) rfl
      cases z
    · rw [e'] at q
      cases q
  have kt : Kt H (upd H' D (.lst (acc ++ [.ref b]))) := (Kt.hand a.hh bt).trans (Kt.lst e')
  refine ⟨acc, e', smallB (by omega), a.h0, a.nD, hh.upd Dp_.symm cD, fun q o hq e3 => ?_, _, upd_same, by rw [List.length_append, ln]; rfl, fun j v ej => ?_⟩
  · rw [upd_ne (ne_of_none e3 a.nD)]
    exact bt _ _ hq (a.b _ _ hq e3)
  · by_cases hj : j < acc.length
    · rw [List.getElem?_append_left hj] at ej
      obtain ⟨b1, s1, ys1, e1, e2, p1, p2, q1, w1⟩ := ha j v ej
      refine ⟨b1, s1, ys1, e1, e2, p1, p2, ?_, hk _ _ _ _ kt w1⟩
      rcases q1 with q1 | q1
      · exact .inl (by rw [upd_ne p2]; exact bt _ _ p1 q1)
      · exact .inr (by rw [upd_ne p2]; exact bt _ _ p1 q1)
    · have : j = acc.length := by
        obtain ⟨h, _⟩ := List.getElem?_eq_some_iff.mp ej
        rw [List.length_append] at h
        have : ([V.ref b] : List V).length = 1 := rfl
        omega
      subst this
      rw [List.getElem?_append_right (Nat.le_refl _), Nat.sub_self] at ej
      cases ej
      refine ⟨b, s, ys, rfl, by rw [ln]; exact es, bp, bD, ?_, hk _ _ _ _ (Kt.lst e') hw⟩
      rcases sq with q1 | q1
      · exact .inl (by rw [upd_ne bD]; exact q1)
      · exact .inr (by rw [upd_ne bD]; exact q1)
end
def rwS (_ : Hp) (s : Int × Int) (ys : List V) : Prop := ys = [.int s.1, .int s.2]
def rwA (H : Hp) (r : Ar) (ys : List V) : Prop := ∃ m, ys = [.int r.o, .ref m, .int r.t] ∧ Im H (.ref m) r.m.d
theorem rwA_kt (H H' : Hp) (r : Ar) (ys : List V) (k : Kt H H') (h : rwA H r ys) : rwA H' r ys := by
  obtain ⟨m, e, i⟩ := h
  exact ⟨m, e, Im.kt k _ _ i⟩
theorem small_mv (m : Mv) : Small 8 m.d := by
  have h := shp_mv m
  refine ⟨?_, ?_⟩
  · unfold SeqAt.shaped at h
    exact (and_ok h).1
  · cases m with
    | stay => exact Nat.le_of_ble_eq_true (by kernel_rfl)
    | deed L => cases L <;> exact Nat.le_of_ble_eq_true (by kernel_rfl)
    | so T => cases T <;> exact Nat.le_of_ble_eq_true (by kernel_rfl)
    | not T => cases T <;> exact Nat.le_of_ble_eq_true (by kernel_rfl)
section
variable {p c : Addr} {H : Hp} {b : Addr} {n : Int}
theorem shown_start {s : Int × Int} (sq : SqA H b [.int s.1, .int s.2]) (bp : b ≠ p) : ∃ d, Tg p H (.ref b) d ∧ StT s d ∧ Small 9 d := by
  rcases sq with e | e
  · exact ⟨.list [.int s.1, .int s.2], .lst e bp (.cons (.int _) (.cons (.int _) .nil)) (by kernel_rfl), rfl, by kernel_rfl, Nat.le_of_ble_eq_true (by kernel_rfl)⟩
  · exact ⟨.tuple [.int s.1, .int s.2], .tup e bp (.cons (.int _) (.cons (.int _) .nil)) (by kernel_rfl), rfl, by kernel_rfl, Nat.le_of_ble_eq_true (by kernel_rfl)⟩
theorem shown_arrow {r : Ar} {m : Addr} (hh : HandC H p c) (sq : SqA H b [.int r.o, .ref m, .int r.t]) (bp : b ≠ p) (im : Im H (.ref m) r.m.d) : ∃ d, Tg p H (.ref b) d ∧ ArT r d ∧ Small 9 d := by
  have tg : TgAll p H [.int r.o, .ref m, .int r.t] [.int r.o, r.m.d, .int r.t] := .cons (.int _) (.cons (Im.tg (hand_tup hh) _ _ im (shp_mv r.m)) (.cons (.int _) .nil))
  have sm : ∀ e ∈ ([.int r.o, r.m.d, .int r.t] : List PyData), Small 8 e := fun e he => by
    rcases List.mem_cons.1 he with rfl | he
    · exact ⟨by kernel_rfl, Nat.le_of_ble_eq_true (by kernel_rfl)⟩
    · rcases List.mem_cons.1 he with rfl | he
      · exact small_mv r.m
      · rw [List.mem_singleton.mp he]; exact ⟨by kernel_rfl, Nat.le_of_ble_eq_true (by kernel_rfl)⟩
  rcases sq with e | e
  · exact ⟨_, .lst e bp tg ((small_lst sm).shaped (by decide)), ⟨_, rfl, mvT_d r.m⟩, small_lst sm⟩
  · exact ⟨_, .tup e bp tg ((small_tup sm).shaped (by decide)), ⟨_, rfl, mvT_d r.m⟩, small_tup sm⟩
theorem tg_sq {xs : List V} {ds : List PyData} (sq : SqA H b xs) (bp : b ≠ p) (tg : TgAll p H xs ds) (sm : ∀ e ∈ ds, Small 9 e) : ∃ d, Tg p H (.ref b) d ∧ rowsOf d = some ds := by
  rcases sq with e | e
  · exact ⟨.list ds, .lst e bp tg ((small_lst sm).shaped (by decide)), rfl⟩
  · exact ⟨.tuple ds, .tup e bp tg ((small_tup sm).shaped (by decide)), rfl⟩
theorem gvs_of {xs : List V} {ss : List (Int × Int)} (sq : SqA H b xs) (bp : b ≠ p) (ln : xs.length = ss.length) (l60 : ss.length ≤ 60) (so : ∀ s ∈ ss, StOk n s) (h : ∀ (j : Nat) v, xs[j]? = some v → ∃ b s ys, v = .ref b ∧ ss[j]? = some s ∧ b ≠ p ∧ SqA H b ys ∧ rwS H s ys) : GvS p H n (.ref b) ss := by
  obtain ⟨ds, tg, e, hr⟩ := gather (p := p) (H := H) (R := fun s d => StT s d ∧ Small 9 d) (g := stOf) (fun s d r => stOf_of r.1) xs ss ln fun j v ej => by
    obtain ⟨b1, s, ys, rfl, es, bp1, q, rfl⟩ := h j v ej
    obtain ⟨d, t, r1, r2⟩ := shown_start q bp1
    exact ⟨s, d, es, t, r1, r2⟩
  obtain ⟨d, t, er⟩ := tg_sq sq bp tg fun e he => by
    obtain ⟨s, _, r⟩ := hr e he
    exact r.2
  refine ⟨d, ds, t, ⟨er, by have := tg.len; omega, fun e he => ?_⟩, e⟩
  obtain ⟨s, hs, r⟩ := hr e he
  exact isStart_of r.1 (so s hs).1 (by have := (so s hs).2; omega)
theorem gva_of {xs : List V} {rs : List Ar} (hh : HandC H p c) (sq : SqA H b xs) (bp : b ≠ p) (ln : xs.length = rs.length) (l60 : rs.length ≤ 4000) (so : ∀ s ∈ rs, ArOk n s) (h : ∀ (j : Nat) v, xs[j]? = some v → ∃ b s ys, v = .ref b ∧ rs[j]? = some s ∧ b ≠ p ∧ SqA H b ys ∧ rwA H s ys) : GvA p H n (.ref b) rs := by
  obtain ⟨ds, tg, e, hr⟩ := gather (p := p) (H := H) (R := fun s d => ArT s d ∧ Small 9 d) (g := arOf) (fun s d r => arOf_of r.1) xs rs ln fun j v ej => by
    obtain ⟨b1, s, ys, rfl, es, bp1, q, m, rfl, im⟩ := h j v ej
    obtain ⟨d, t, r1, r2⟩ := shown_arrow hh q bp1 im
    exact ⟨s, d, es, t, r1, r2⟩
  obtain ⟨d, t, er⟩ := tg_sq sq bp tg fun e he => by
    obtain ⟨s, _, r⟩ := hr e he
    exact r.2
  refine ⟨d, ds, t, ⟨er, by have := tg.len; omega, fun e he => ?_⟩, e⟩
  obtain ⟨s, hs, r⟩ := hr e he
  exact isArrow_of r.1 (so s hs).1 (so s hs).2.1 (so s hs).2.2
end
end My
set_option Elab.async false
set_option linter.all false
set_option maxRecDepth 100000
set_option maxHeartbeats 8000000
namespace My
open PySem PySem.Spec PyProof.Rows L2
local macro_rules | `(tactic| walk_at "lv") => `(tactic| first | exact Or.inl rfl | exact Or.inr rfl)
/-! ### the law -/
/-- list(x), as a reading -/
def rLstOf (K : PySem.W.Frag) : List V → Hp → VK → Prop := fun xs H Q => ∃ p ys, xs = [.ref p] ∧ (SqL K H p ys ∨ SqT K H p ys) ∧ ∀ l, H l = none → Q (.ref l) (upd H l (.lst ys))
def spLaw (K : PySem.W.Frag) : Sp := fun vs H Q _ => ∃ (a : Addr) (ns : List Int), vs = [.ref a] ∧ SqL K H a (ns.map V.int) ∧ ns.length ≤ 63 ∧ ∀ H', Q (.bl true) H'
abbrev s_law : Stmt := top 68
abbrev N_law : List Str := ["_law_script", "_law_hand_here", "_law_base", "_law_given", "_law_machine_here", "_law_rim_here", "_law_block_here", "_law_loose", "_law_ways", "_law_other", "_law_way", "_law_move_here", "_law_turn", "_law_start", "_law_arrow"]
theorem sc_law : FnScope N_law ["_law_script"] (defScope s_law) := ⟨rfl, rfl, rfl, by decide +kernel, rfl, by decide +kernel, by decide +kernel⟩
/-- the law's things -/
structure LS (K : PySem.W.Frag) (p c q l1 l2 : Addr) (n : Int) (ss : List (Int × Int)) (rs : List Ar) (g : Addr) (x y : V) (H : Hp) : Prop where
  hh : HandC H p c
  ba : BaseAt p H q l1 l2 n ss rs
  gv : H g = some (.lst [x, y])
  gp : g ≠ p
  gx : GvS p H n x ss
  gy : GvA p H n y rs
theorem LS.but {K : PySem.W.Frag} {p c q l1 l2 : Addr} {n : Int} {ss : List (Int × Int)} {rs : List Ar} {g : Addr} {x y : V} {H H' : Hp} (a : LS K p c q l1 l2 n ss rs g x y H) (b : But p H H') (h : HandC H' p c) : LS K p c q l1 l2 n ss rs g x y H' :=
  ⟨h, a.ba.but a.hh b, b _ _ a.gp a.gv, a.gp, a.gx.but b, a.gy.but b⟩
theorem LS.same {K : PySem.W.Frag} {p c q l1 l2 : Addr} {n : Int} {ss : List (Int × Int)} {rs : List Ar} {g : Addr} {x y : V} {H H' : Hp} (a : LS K p c q l1 l2 n ss rs g x y H) (s : Same H H') : LS K p c q l1 l2 n ss rs g x y H' := a.but (But.of s) (a.hh.same s)
theorem ite_nn {a : Int} {p q : Prop} (h : q) : if (!decide (V.int a = V.int a)) = true then p else q := by
  rw [decide_eq_true rfl, if_neg (by decide)]
  exact h
theorem ImAll.drop {H : Hp} : ∀ {xs : List V} {ds : List PyData} (i : Nat), ImAll H xs ds → ImAll H (xs.drop i) (ds.drop i)
  | _, _, 0, h => h
  | _, _, i + 1, .nil => .nil
  | _, _, i + 1, .cons _ r => ImAll.drop i r
structure LawSrc (P : Program) (w : World) (K : PySem.W.Frag) (mg : Str → Option Value) (base : Heap) : Prop where
  n : Nb mg
  hand : Keeps CX0 P w K mg base "_law_hand" 1 ["_law_script"] (spHand K)
  drw : Keeps CX0 P w K mg base "_law_draw" 2 ["_law_hand_here", "_law_many"] spDraw
  sha : Keeps CX0 P w K mg base "_law_shape" 4 ["_law_hand_here", "_law_wide"] spLsh
  mac : Keeps CX0 P w K mg base "_law_machine" 7 ["_law_hand_here", "_law_shape_here", "_law_many"] spLma
  sho : Keeps CX0 P w K mg base "_law_shown" 3 ["_law_hand_here", "_law_things"] spLsw
  T : MachTxt K mg (He.ga K "Machine")
  M : Mk K (He.ga K "Machine") (He.ma K (He.ga K "Machine") "__init__")
  mi : KeepsM (CX P w) P w K mg base (He.ma K (He.ga K "Machine") "__init__") 7 ["self", "stations", "starts", "arrows"] (spMi K (He.ga K "Machine"))
  me : KeepsM CX0 P w K mg base (He.ma K (He.ga K "Machine") "__eq__") 1 ["self", "other"] (spMe (He.ga K "Machine"))
  eh : PySem.W.findIn K (.ref (He.ga K "Machine")) "__eq__" = some (some (.ref (He.ma K (He.ga K "Machine") "__eq__")))
  ef : PySem.W.isFn K (.ref (He.ma K (He.ga K "Machine") "__eq__")) = true
  lri : Keeps CX0 P w K mg base "_law_rim" 1 ["_law_starts", "_law_arrows"] spLri
  lbl : Keeps CX0 P w K mg base "_law_block" 2 ["_law_arrows"] spLbl
  lwh : Keeps CX0 P w K mg base "_law_whole" 1 ["_law_thing"] spWhole
  ltd : Keeps CX0 P w K mg base "_law_told" 9 ["_law_stations", "_law_starts", "_law_arrows"] (spLtd K)
  om : Keeps CX0 P w K mg base "_law_odd_move" 4 ["_law_hand_here"] spOdM
  lmt : Keeps CX0 P w K mg base "_law_move_told" 6 ["_law_move_here"] spLmt
  rh : Keeps CX0 P w K mg base "_law_rooms_hold" 3 ["_law_hand_here", "_law_machine_here", "_law_rim_here", "_law_block_here"] (spRh (He.ga K "Machine"))
  mh : Keeps CX0 P w K mg base "_law_moves_hold" 7 ["_law_hand_here", "_law_arrows"] spMh
  rf : Keeps CX0 P w K mg base "_law_refusals_hold" 10 ["_law_hand_here", "_law_base"] spRf
  gh : Keeps CX0 P w K mg base "_law_great_holds" 10 ["_law_hand_here"] spGh
section
variable {P : Program} {w : World} {K : PySem.W.Frag} {mg : Str → Option Value} {base : Heap}
theorem kp_law {fd : FuncData} (F : FunD K "law" "law" (defArgs s_law) (defBody s_law) (defScope s_law) [] [] (He.ga K "law") fd) (S : LawSrc P w K mg base) : FnOk P w K mg base CX0 11 (He.ga K "law") fd ["_law_script"] (spLaw K) := by
  refine F.ok sc_law (fun vs H Q E h => ?_) (fun cdv A outer s H vs Q E hr h => ?_)
  · obtain ⟨a, ns, rfl, _⟩ := h
    rfl
  · obtain ⟨a, ns, rfl, hS, hlen, k⟩ := h
    obtain ⟨fI, FI, bI⟩ := S.mi
    obtain ⟨fE, FE, bE⟩ := S.me
    have hR : ∀ j, j ≤ 10 → Room j (A.deeper (envOfC "law" (defScope s_law) s.heap.objs.size (He.ga K "law") cdv)) := fun j hj => hr.mono hj
    have N := S.n
    have main : ∃ tt, PSs (cxOf CX0 P w K mg base N_law "law" (defScope s_law) (He.ga K "law") cdv A outer s H E).nox (defBody s_law) tt ∧ tt { nx := fun _ H' => Q .non H', rt := Q } (start N_law [V.ref a]) H := by
      refine ⟨_, (pss_cons (ps_set (i := 1) sc_law.nd rfl (by walk_at "lv") (pe_k S.hand (hR 1 (by decide)) (by rfl) pass0 (pa_cons (pv 0) pa_nil)))
          (pss_cons (ps_set (i := 2) sc_law.nd rfl (by walk_at "lv") (pe_k S.mac (hR 7 (by decide)) (by rfl) pass0 (pa_cons (pv 1) (pa_cons (pe_k S.sha (hR 4 (by decide)) (by rfl) pass0 (pa_cons (pv 1) (pa_cons (pe_cmpR op_eq (pe_k S.drw (hR 2 (by decide)) (by rfl) pass0 (pa_cons (pv 1) (pa_cons pe_int pa_nil))) pe_int (nomark _)) pa_nil))) (pa_cons pe_int pa_nil)))))
          (C8.pss_cut (ps_set (i := 3) sc_law.nd rfl (by walk_at "lv") (pe_lst (pa_cons (pe_k S.sho (hR 3 (by decide)) (by rfl) pass0 (pa_cons (pv 1) (pa_cons (pe_lc (own := [("_law_start", 13)]) (g := gName 13) (tt := tYes) rfl sc_law.nd (pi_list (pe_ix ix_list (pv 2) pe_int (fun _ _ => rfl))) (blkOk_by (N := N_law) (sc := defScope s_law) (by decide +kernel)) (fun _ _ _ _ _ => (pg_name (i := 13) sc_law.nd rfl (by walk_at "lv"))) (fun _ _ _ _ _ => pts_nil) (fun _ _ _ _ _ => (pe_k S.sho (hR 3 (by decide)) (by rfl) pass0 (pa_cons (pv 1) (pa_cons (pv 13) pa_nil))))) pa_nil))) (pa_cons (pe_k S.sho (hR 3 (by decide)) (by rfl) pass0 (pa_cons (pv 1) (pa_cons (pe_lc (own := [("_law_arrow", 14)]) (g := gName 14) (tt := tYes) rfl sc_law.nd (pi_list (pe_ix ix_list (pv 2) pe_int (fun _ _ => rfl))) (blkOk_by (N := N_law) (sc := defScope s_law) (by decide +kernel)) (fun _ _ _ _ _ => (pg_name (i := 14) sc_law.nd rfl (by walk_at "lv"))) (fun _ _ _ _ _ => pts_nil) (fun _ _ _ _ _ => (pe_k S.sho (hR 3 (by decide)) (by rfl) pass0 (pa_cons (pv 1) (pa_cons (pv 14) pa_nil))))) pa_nil))) pa_nil))))
          (pss_cons (ps_set (i := 4) sc_law.nd rfl (by walk_at "lv") (pe_make (dvs := []) (E := E0) S.M FI (hR 8 (by decide)) (by rfl) S.T.mgC bI .nil passE (pa_cons (pe_ix ix_list (pv 2) pe_int (fun _ _ => rfl)) (pa_cons (pe_ix ix_list (pv 3) pe_int (fun _ _ => rfl)) (pa_cons (pe_ix ix_list (pv 3) pe_int (fun _ _ => rfl)) pa_nil)))))
          (pss_cons (ps_set (i := 5) sc_law.nd rfl (by walk_at "lv") (pe_k S.lri (hR 1 (by decide)) (by rfl) pass0 (pa_cons (pe_ix ix_list (pv 2) pe_int (fun _ _ => rfl)) (pa_cons (pe_ix ix_list (pv 2) pe_int (fun _ _ => rfl)) pa_nil))))
          (pss_cons (ps_set (i := 6) sc_law.nd rfl (by walk_at "lv") (pe_k S.lbl (hR 2 (by decide)) (by rfl) pass0 (pa_cons (pe_ix ix_list (pv 2) pe_int (fun _ _ => rfl)) pa_nil)))
          (pss_cons (ps_if (PW.pt (pw_or (pt_not (pt_val (pe_k S.lwh (hR 1 (by decide)) (by rfl) pass0 (pa_cons (pe_fld (pv 4) rfl) pa_nil)))) (pw_or (pt_cmpR op_ne (pe_fld (pv 4) rfl) (pv 5) (nomark _)) (pw_or (pt_not (pt_val (pe_k S.lwh (hR 1 (by decide)) (by rfl) pass0 (pa_cons (pe_fld (pv 4) rfl) pa_nil)))) (pw_or1 (pt_cmpR op_ne (pe_fld (pv 4) rfl) (pv 6) (nomark _))))))) (pss_one (ps_ret pe_bl)) pss_nil)
          (C8.pss_cut (ps_if (pt_cmpR (op_neD hr.units) (pe_k S.ltd (hR 9 (by decide)) (by rfl) pass0 (pa_cons (pe_ix ix_list (pv 2) pe_int (fun _ _ => rfl)) (pa_cons (pe_ix ix_list (pv 3) pe_int (fun _ _ => rfl)) (pa_cons (pe_ix ix_list (pv 3) pe_int (fun _ _ => rfl)) pa_nil)))) (pe_lst (pa_cons pe_str (pa_cons (pe_ix ix_list (pv 2) pe_int (fun _ _ => rfl)) (pa_cons (pe_callTy call_tuple_of (by rfl) N.tuple (by decide +kernel) (pa_cons (pe_ix ix_list (pv 2) pe_int (fun _ _ => rfl)) pa_nil)) (pa_cons (pe_callTy call_tuple_of (by rfl) N.tuple (by decide +kernel) (pa_cons (pe_ix ix_list (pv 2) pe_int (fun _ _ => rfl)) pa_nil)) pa_nil))))) (nomark _)) (pss_one (ps_ret pe_bl)) pss_nil)
          (C8.pss_cut (ps_if (PW.pt (pw_or (pt_not (pt_cmpR (op_eqOwn (E := E0) FE S.eh S.ef bE pass0 (hR 1 (by decide))) (pv 4) (pe_make (dvs := []) (E := E0) S.M FI (hR 8 (by decide)) (by rfl) S.T.mgC bI .nil passE (pa_cons (pe_ix ix_list (pv 2) pe_int (fun _ _ => rfl)) (pa_cons (pe_ix ix_list (pv 2) pe_int (fun _ _ => rfl)) (pa_cons (pe_ix ix_list (pv 2) pe_int (fun _ _ => rfl)) pa_nil)))) (nomark _))) (pw_or1 (pt_cmpR (op_eqOwn (E := E0) FE S.eh S.ef bE pass0 (hR 1 (by decide))) (pv 4) (pe_make (dvs := []) (E := E0) S.M FI (hR 8 (by decide)) (by rfl) S.T.mgC bI .nil passE (pa_cons (pe_op op_add (pe_ix ix_list (pv 2) pe_int (fun _ _ => rfl)) pe_int) (pa_cons (pe_ix ix_list (pv 2) pe_int (fun _ _ => rfl)) (pa_cons (pe_ix ix_list (pv 2) pe_int (fun _ _ => rfl)) pa_nil)))) (nomark _))))) (pss_one (ps_ret pe_bl)) pss_nil)
          (C8.pss_cut (ps_if (PW.pt (pw_or (pt_cmpR (op_eqOwn (E := E0) FE S.eh S.ef bE pass0 (hR 1 (by decide))) (pv 4) (pe_make (dvs := []) (E := E0) S.M FI (hR 8 (by decide)) (by rfl) S.T.mgC bI .nil passE (pa_cons (pe_ix ix_list (pv 2) pe_int (fun _ _ => rfl)) (pa_cons (pe_op op_cat (pe_ix ix_list (pv 2) pe_int (fun _ _ => rfl)) (pe_lst (pa_cons (pe_tup (pa_cons pe_int (pa_cons pe_int pa_nil))) pa_nil))) (pa_cons (pe_ix ix_list (pv 2) pe_int (fun _ _ => rfl)) pa_nil)))) (nomark _)) (pw_or1 (pt_cmpR (op_eqOwn (E := E0) FE S.eh S.ef bE pass0 (hR 1 (by decide))) (pv 4) (pe_make (dvs := []) (E := E0) S.M FI (hR 8 (by decide)) (by rfl) S.T.mgC bI .nil passE (pa_cons (pe_ix ix_list (pv 2) pe_int (fun _ _ => rfl)) (pa_cons (pe_ix ix_list (pv 2) pe_int (fun _ _ => rfl)) (pa_cons (pe_slice sl_list (pe_ix ix_list (pv 2) pe_int (fun _ _ => rfl)) (po_some pe_int) po_none) pa_nil)))) (nomark _))))) (pss_one (ps_ret pe_bl)) pss_nil)
          (C8.pss_cut (ps_setLc (i := 7) (own := [("_law_start", 13)]) (g := gName 13) (tt := tYes) rfl sc_law.nd rfl rfl (sw_true rfl rfl rfl (by decide +kernel)) (pi_list (pe_ix ix_list (pv 2) pe_int (fun _ _ => rfl))) (blkOk_by (N := N_law) (sc := defScope s_law) (by decide +kernel)) (fun _ _ _ _ _ => (pg_name (i := 13) sc_law.nd rfl (by walk_at "lv"))) (fun _ _ _ _ _ => pts_nil) (fun _ _ _ _ _ => (pe_callTy (T := "list") (r := rLstOf K) call_list_of (by rfl) N.list (by decide +kernel) (pa_cons (pv 13) pa_nil))))
          (C8.pss_cut (ps_setLc (i := 8) (own := [("_law_arrow", 14)]) (g := gName 14) (tt := tYes) rfl sc_law.nd rfl rfl (sw_true rfl rfl rfl (by decide +kernel)) (pi_list (pe_ix ix_list (pv 2) pe_int (fun _ _ => rfl))) (blkOk_by (N := N_law) (sc := defScope s_law) (by decide +kernel)) (fun _ _ _ _ _ => (pg_name (i := 14) sc_law.nd rfl (by walk_at "lv"))) (fun _ _ _ _ _ => pts_nil) (fun _ _ _ _ _ => (pe_callTy (T := "list") (r := rLstOf K) call_list_of (by rfl) N.list (by decide +kernel) (pa_cons (pv 14) pa_nil))))
          (pss_cons (ps_set (i := 9) sc_law.nd rfl (by walk_at "lv") (pe_make (dvs := []) (E := E0) S.M FI (hR 8 (by decide)) (by rfl) S.T.mgC bI .nil passE (pa_cons (pe_ix ix_list (pv 2) pe_int (fun _ _ => rfl)) (pa_cons (pv 7) (pa_cons (pv 8) pa_nil)))))
          (pss_cons (ps_expr (pe_bm PySem.F.plainAttrs_list PySem.F.slot_list_append PySem.F.type_list_append mt_append (pv 7) (pa_cons (pe_lst (pa_cons pe_int (pa_cons pe_int pa_nil))) pa_nil)))
          (pss_cons (ps_set (i := 10) sc_law.nd rfl (by walk_at "lv") (pe_ix ix_list (pv 8) pe_int (fun _ _ => rfl)))
          (pss_cons (ps_asg (pe_ix ix_list (pv 2) pe_int (fun _ _ => rfl)) (pg_sub (pv 10) pe_int set_list))
          (pss_cons (ps_expr (pe_bm PySem.F.plainAttrs_list PySem.F.slot_list_append PySem.F.type_list_append mt_append (pv 8) (pa_cons (pe_lst (pa_cons pe_int (pa_cons (pe_tup (pa_cons pe_str pa_nil)) (pa_cons pe_int pa_nil)))) pa_nil)))
          (C8.pss_cut (ps_if (PW.pt (pw_or (pt_not (pt_cmpR (op_eqOwn (E := E0) FE S.eh S.ef bE pass0 (hR 1 (by decide))) (pv 9) (pv 4) (nomark _))) (pw_or (pt_cmpR (op_neD hr.units) (pe_fld (pv 9) rfl) (pe_callTy call_tuple_of (by rfl) N.tuple (by decide +kernel) (pa_cons (pe_ix ix_list (pv 2) pe_int (fun _ _ => rfl)) pa_nil)) (nomark _)) (pw_or1 (pt_cmpR (op_neD hr.units) (pe_fld (pv 9) rfl) (pe_callTy call_tuple_of (by rfl) N.tuple (by decide +kernel) (pa_cons (pe_ix ix_list (pv 2) pe_int (fun _ _ => rfl)) pa_nil)) (nomark _)))))) (pss_one (ps_ret pe_bl)) pss_nil)
          (pss_cons (ps_for PassesOwn.never rfl (pi_list (pe_lst (pa_cons (pe_k S.om (hR 4 (by decide)) (by rfl) pass0 (pa_cons (pv 1) pa_nil)) (pa_cons (pe_k S.om (hR 4 (by decide)) (by rfl) pass0 (pa_cons (pv 1) pa_nil)) pa_nil)))) (pg_name (i := 11) sc_law.nd rfl (by walk_at "lv")) (pss_one (ps_if (pt_cmpR (op_neD hr.units) (pe_k S.lmt (hR 6 (by decide)) (by rfl) pass0 (pa_cons (pv 11) pa_nil)) (pe_lst (pa_cons pe_str (pa_cons pe_bl pa_nil))) (nomark _)) (pss_one (ps_ret pe_bl)) pss_nil)))
          (C8.pss_cut (ps_if (PW.pt (pw_or (pt_not (pt_val (pe_k S.rh (hR 3 (by decide)) (by rfl) pass0 (pa_cons (pv 1) (pa_cons (pv 4) (pa_cons (pv 5) (pa_cons (pv 6) pa_nil))))))) (pw_or1 (pt_not (pt_val (pe_k S.mh (hR 7 (by decide)) (by rfl) pass0 (pa_cons (pv 1) (pa_cons (pe_ix ix_list (pv 2) pe_int (fun _ _ => rfl)) pa_nil)))))))) (pss_one (ps_ret pe_bl)) pss_nil)
          (pss_cons (ps_for PassesOwn.never rfl (pi_range1 (by rfl) N.range (pa_cons pe_int pa_nil)) (pg_name (i := 12) sc_law.nd rfl (by walk_at "lv")) (pss_one (ps_if (pt_not (pt_val (pe_k S.rf hr (by rfl) pass0 (pa_cons (pv 1) (pa_cons (pv 2) pa_nil))))) (pss_one (ps_ret pe_bl)) pss_nil)))
          (pss_one (ps_ret (pe_or (pe_cmpR op_gt (pe_k S.drw (hR 2 (by decide)) (by rfl) pass0 (pa_cons (pv 1) (pa_cons pe_int pa_nil))) pe_int (nomark _)) (pe_one (pe_k S.gh hr (by rfl) pass0 (pa_cons (pv 1) pa_nil))))))))))))))))))))))))))), ?_⟩
      refine ⟨_, rfl, a, ns, rfl, hS, hlen, fun p c H1 _ _ hp s1 => ?_⟩
      refine ⟨_, rfl, _, rfl, _, rfl, p, c, 2, rfl, hp, ⟨by decide, by decide⟩, fun z H2 z0 z1 hh2 b2 => ⟨rfl, p, c, _, rfl, hh2, fun u n st t ms H3 sa tp hh3 b3 => ⟨p, c, u, t, n, st, ms, rfl, hh3, sa, tp, fun q l1 l2 ss rs H4 ba hh4 b4 => ?_⟩⟩⟩
      refine ⟨fun σ H => ∃ (g : Addr) (x y : V), σ = [some (.ref a), some (.ref p), some (.ref q), some (.ref g), none, none, none, none, none, none, none, none, none, none, none] ∧ LS K p c q l1 l2 n ss rs g x y H, ?_, ?_⟩
      · obtain ⟨xs, es, ims⟩ := id ba.st
        obtain ⟨ys, ea, ima⟩ := id ba.ar
        have lxs := ims.len
        have lys := ima.len
        rw [List.length_map] at lxs lys
        have sl := ba.sl
        have al := ba.al
        refine ⟨_, rfl, _, rfl, q, _, _, _, rfl, rfl, SqL.of ba.e, rfl, l1, rfl, ⟨xs, SqL.of es⟩, fun D hD => ?_⟩
        refine lc_it walk_list (fun i H => ShSt p c D H4 rwS ss i H) (ShSt.init hh4 hD) (fun i H _ h => SqL.of (h.b _ _ ba.sp es)) ?_ ?_
        · rintro i v H5 H6 hi h5 ⟨rfl, e6⟩
          have e6 := e6
          obtain ⟨dd, e7, iv⟩ := ims.get e6
          rw [List.getElem?_map] at e7
          obtain ⟨s, er, rfl⟩ := Option.map_eq_some_iff.mp e7
          obtain ⟨t1, rfl, et1⟩ := (Im.kt (Kt.hand hh4 h5.b) _ _ iv).st
          refine ⟨rfl, _, rfl, _, rfl, p, c, t1, _, rfl, h5.hh, .inr et1, h5.hh.nt et1, fun b H7 sqb bp hh7 b7 => ?_⟩
          exact h5.step (fun _ _ _ _ _ h => h) (fun _ _ _ h => ⟨_, _, h⟩) sqb bp hh7 b7 er rfl (by omega)
        · intro H5 h5
          rw [lxs] at h5
          obtain ⟨acc, eD, la, hacc⟩ := h5.x
          refine ⟨p, c, D, acc, rfl, h5.hh, .inl eD, (hh4.ne hD).1.symm, fun gx H6 sqx gxp hh6 b6 => ?_⟩
          have b46 := h5.b.trans b6
          have GX : GvS p H6 n (.ref gx) ss := gvs_of sqx gxp la (by omega) ba.so fun j v ej => by
            obtain ⟨b, s, ys, e1, e2, bp, _, q, w⟩ := hacc j v ej
            exact ⟨b, s, ys, e1, e2, bp, q.but bp b6, w⟩
          refine ⟨_, rfl, _, rfl, q, _, _, _, rfl, rfl, SqL.of (b46 _ _ ba.qp ba.e), rfl, l2, rfl, ⟨ys, SqL.of (b46 _ _ ba.ap ea)⟩, fun D2 hD2 => ?_⟩
          refine lc_it walk_list (fun i H => ShSt p c D2 H6 rwA rs i H) (ShSt.init hh6 hD2) (fun i H _ h => SqL.of (h.b _ _ ba.ap (b46 _ _ ba.ap ea))) ?_ ?_
          · rintro i v H7 H8 hi h7 ⟨rfl, e6⟩
            have e6 := e6
            obtain ⟨dd, e7, iv⟩ := ima.get e6
            rw [List.getElem?_map] at e7
            obtain ⟨r, er, rfl⟩ := Option.map_eq_some_iff.mp e7
            obtain ⟨t1, m1, rfl, et1, mr⟩ := (Im.kt (Kt.hand hh4 (b46.trans h7.b)) _ _ iv).ar
            refine ⟨rfl, _, rfl, _, rfl, p, c, t1, _, rfl, h7.hh, .inr et1, h7.hh.nt et1, fun b H9 sqb bp hh9 b9 => ?_⟩
            exact h7.step rwA_kt (fun _ _ _ ⟨_, h, _⟩ => ⟨_, _, h⟩) sqb bp hh9 b9 er ⟨m1, rfl, Im.kt (Kt.hand h7.hh b9) _ _ (im_mv mr)⟩ (by omega)
          · intro H7 h7
            rw [lys] at h7
            obtain ⟨acc2, eD2, la2, hacc2⟩ := h7.x
            refine ⟨p, c, D2, acc2, rfl, h7.hh, .inl eD2, (hh6.ne hD2).1.symm, fun gy H8 sqy gyp hh8 b8 => ?_⟩
            have b48 := (b46.trans h7.b).trans b8
            have GY : GvA p H8 n (.ref gy) rs := gva_of hh8 sqy gyp la2 (by omega) ba.ao fun j v ej => by
              obtain ⟨b, s, ys, e1, e2, bp, _, q, w⟩ := hacc2 j v ej
              exact ⟨b, s, ys, e1, e2, bp, q.but bp b8, rwA_kt _ _ _ _ (Kt.hand h7.hh b8) w⟩
            refine ⟨(by show 2 ≤ sizeLine; decide), fun g ng => ?_⟩
            have s9 := same_new (o := .lst [V.ref gx, V.ref gy]) (Same.refl H8) ng
            exact ⟨g, .ref gx, .ref gy, rfl, hh8.same s9, ba.but hh4 (b48.trans (But.of s9)), upd_same, (hh8.ne ng).1.symm, GX.but ((h7.b.trans b8).trans (But.of s9)), GY.but (But.of s9)⟩
      · rintro _ H5 ⟨g, x, y, rfl, ls⟩
        have ba := ls.ba
        obtain ⟨xs, es, ims⟩ := id ba.st
        obtain ⟨ys, ea, ima⟩ := id ba.ar
        have lxs := ims.len
        have lys := ima.len
        rw [List.length_map] at lxs lys
        have sl := ba.sl
        have al := ba.al
        have nb := ba.nb
        have aok : ∀ r ∈ rs, r.m.Ok := fun r hr => (ba.ao r hr).1
        have ixb : ∀ {H : Hp}, LS K p c q l1 l2 n ss rs g x y H → SqL K H q [.int n, .ref l1, .ref l2] := fun l => SqL.of l.ba.e
        have ixg : ∀ {H : Hp}, LS K p c q l1 l2 n ss rs g x y H → SqL K H g [x, y] := fun l => SqL.of l.gv
        refine ⟨_, rfl, q, _, _, _, rfl, rfl, ixb ls, rfl, _, rfl, g, _, _, _, rfl, rfl, ixg ls, rfl, _, rfl, g, _, _, _, rfl, rfl, ixg ls, rfl, ?_⟩
        refine made ls.hh (by omega) ls.gx ls.gy fun m r H6 s6 ma => ?_
        have ls6 := ls.same s6
        obtain ⟨xs6, es6, ims6⟩ := id ls6.ba.st
        obtain ⟨ys6, ea6, ima6⟩ := id ls6.ba.ar
        refine ⟨_, rfl, q, _, _, _, rfl, rfl, ixb ls6, rfl, _, rfl, q, _, _, _, rfl, rfl, ixb ls6, rfl, l1, l2, xs6, ys6, ss, rs, rfl, .inl es6, ims6, .inl ea6, ima6, aok, fun r' ir' => ?_⟩
        obtain ⟨dx, a1, b1, l, hm, ir, ia, ib, mok⟩ := id ma
        obtain rfl := ir'.uniq ir
        have rl : r' ≤ 1000 := by have := rim_le ir ba.so aok; omega
        refine ⟨_, rfl, q, _, _, _, rfl, rfl, ixb ls6, rfl, l2, ys6, rs, rfl, .inl ea6, ima6, aok, fun H7 s7 => ?_⟩
        have ls7 := ls6.same s7
        have ma7 := ma.kt (Kt.of s7)
        have hm7 := s7 _ _ hm
        refine ⟨_, rfl, m, _, dx, _, _, rfl, hm7, S.T.cl, S.T.n4, mf_rim, r', rfl, _, rfl, iteF ?_⟩
        refine ⟨_, rfl, m, _, dx, _, _, rfl, hm7, S.T.cl, S.T.n4, mf_rim, _, rfl, rfl, _, rfl, ite_nn ?_⟩
        refine ⟨_, rfl, m, _, dx, _, _, rfl, hm7, S.T.cl, S.T.n5, mf_block, _, rfl, _, rfl, iteF ?_⟩
        refine ⟨_, rfl, m, _, dx, _, _, rfl, hm7, S.T.cl, S.T.n5, mf_block, _, rfl, rfl, _, rfl, ite_nn ?_⟩
        refine ⟨fun σ H => σ = [some (.ref a), some (.ref p), some (.ref q), some (.ref g), some (.ref m), some (.int r'), some (.int (blockOf (toldOf rs))), none, none, none, none, none, none, none, none] ∧ LS K p c q l1 l2 n ss rs g x y H ∧ MachAt (He.ga K "Machine") H m n ss rs r', ?_, ?_⟩
        · refine ⟨_, rfl, q, _, _, _, rfl, rfl, ixb ls7, rfl, _, rfl, g, _, _, _, rfl, rfl, ixg ls7, rfl, _, rfl, g, _, _, _, rfl, rfl, ixg ls7, rfl, ?_⟩
          dsimp only [tNil]
          refine told_good ls7.hh (by omega) ls7.gx ls7.gy fun t a2 b2 H8 s8 et ia2 ib2 => ?_
          have ls8 := ls7.same s8
          obtain ⟨xs8, es8, ims8⟩ := id ls8.ba.st
          obtain ⟨ys8, ea8, ima8⟩ := id ls8.ba.ar
          refine ⟨_, rfl, q, _, _, _, rfl, rfl, ixb ls8, rfl, _, rfl, q, _, _, _, rfl, rfl, ixb ls8, rfl, l1, xs8, rfl, .inl ⟨SqL.of es8, fun q1 n1 => ?_⟩⟩
          have s9 := same_new (o := .tup xs8) (Same.refl H8) n1
          have ls9 := ls8.same s9
          refine ⟨_, rfl, q, _, _, _, rfl, rfl, ixb ls9, rfl, l2, ys8, rfl, .inl ⟨SqL.of (s9 _ _ ea8), fun q2 n2 => ⟨(by show 4 ≤ sizeLine; decide), fun q3 n3 => ?_⟩⟩⟩
          have s10 := same_new (o := .tup ys8) s9 n2
          have s11 := same_new (o := .lst [V.str "good", V.int n, V.ref q1, V.ref q2]) s10 n3
          have v10 := same_new (o := .tup ys8) (Same.refl _) n2
          have v11 := same_new (o := .lst [V.str "good", V.int n, V.ref q1, V.ref q2]) (Same.refl _) n3
          have sh := shp_told n ss rs
          have ls11 := ls8.same s11
          refine ⟨_, _, dp_told (s11 _ _ et) (Im.dp _ _ (Im.kt (Kt.of s11) _ _ ia2)) (Im.dp _ _ (Im.kt (Kt.of s11) _ _ ib2)), dp_told upd_same (.tup (SqT.of (v11 _ _ (v10 _ _ upd_same))) (TgAll.dp _ _ ((tg_starts ls8.hh ims8).same s11))) (.tup (SqT.of (v11 _ _ upd_same)) (TgAll.dp _ _ ((tg_arrows ls8.hh ima8).same s11))), sh, sh, ?_⟩
          rw [shp_refl sh]
          exact ⟨_, rfl, iteF ⟨rfl, ls11, ma7.kt (Kt.of (s8.trans s11))⟩⟩
        · rintro _ H8 ⟨rfl, ls8, ma8⟩
          refine ⟨fun σ H => σ = [some (.ref a), some (.ref p), some (.ref q), some (.ref g), some (.ref m), some (.int r'), some (.int (blockOf (toldOf rs))), none, none, none, none, none, none, none, none] ∧ LS K p c q l1 l2 n ss rs g x y H ∧ MachAt (He.ga K "Machine") H m n ss rs r', ?_, ?_⟩
          · refine ⟨_, rfl, _, rfl, q, _, _, _, rfl, rfl, ixb ls8, rfl, _, rfl, q, _, _, _, rfl, rfl, ixb ls8, rfl, _, rfl, q, _, _, _, rfl, rfl, ixb ls8, rfl, ?_⟩
            refine made ls8.hh (by omega) (ls8.ba.gs ls8.hh (Int.le_refl n)) (ls8.ba.ga ls8.hh (Int.le_refl n)) fun m1 r1 H9 s9 ma9 => ?_
            have ls9 := ls8.same s9
            refine mach_eq (ma8.kt (Kt.of s9)) ma9 ⟨_, rfl, iteF ?_⟩
            refine ⟨_, rfl, _, rfl, q, _, _, _, rfl, rfl, ixb ls9, rfl, ?_⟩
            refine ⟨_, _, rfl, rfl, _, rfl, q, _, _, _, rfl, rfl, ixb ls9, rfl, _, rfl, q, _, _, _, rfl, rfl, ixb ls9, rfl, ?_⟩
            refine made ls9.hh (show 1 ≤ n + 1 ∧ n + 1 ≤ 200 by omega) (ls9.ba.gs ls9.hh (by omega)) (ls9.ba.ga ls9.hh (by omega)) fun m2 r2 H10 s10 ma10 => ?_
            exact mach_ne (ma8.kt (Kt.of (s9.trans s10))) ma10 (.inl (by omega)) ⟨_, rfl, iteF ⟨rfl, ls9.same s10, ma8.kt (Kt.of (s9.trans s10))⟩⟩
          · rintro _ H9 ⟨rfl, ls9, ma9⟩
            refine ⟨fun σ H => σ = [some (.ref a), some (.ref p), some (.ref q), some (.ref g), some (.ref m), some (.int r'), some (.int (blockOf (toldOf rs))), none, none, none, none, none, none, none, none] ∧ LS K p c q l1 l2 n ss rs g x y H ∧ MachAt (He.ga K "Machine") H m n ss rs r', ?_, ?_⟩
            · obtain ⟨xs9, es9, ims9⟩ := id ls9.ba.st
              obtain ⟨ys9, ea9, ima9⟩ := id ls9.ba.ar
              have lx9 := ims9.len
              rw [List.length_map] at lx9
              refine ⟨_, rfl, _, rfl, q, _, _, _, rfl, rfl, ixb ls9, rfl, _, rfl, q, _, _, _, rfl, rfl, ixb ls9, rfl, (by show 2 ≤ sizeLine; decide), fun t nt => ⟨(by show 1 ≤ sizeLine; decide), fun u nu => ?_⟩⟩
              have s10 := same_new (o := .tup [V.int 0, V.int 0]) (Same.refl H9) nt
              have s11 := same_new (o := .lst [V.ref t]) s10 nu
              refine ⟨l1, u, _, _, rfl, rfl, s11 _ _ es9, upd_same, (by rw [sizeLine_eq]; show _ + 1 ≤ _; omega), fun v nv => ?_⟩
              have s12 := same_new (o := .lst (xs9 ++ [V.ref t])) s11 nv
              have ls12 := ls9.same s12
              have et : upd (upd (upd H9 t (.tup [V.int 0, V.int 0])) u (.lst [V.ref t])) v (.lst (xs9 ++ [V.ref t])) t = some (.tup [V.int 0, V.int 0]) := by
                have w1 := same_new (o := .lst [V.ref t]) (Same.refl _) nu
                have w2 := same_new (o := .lst (xs9 ++ [V.ref t])) (Same.refl _) nv
                exact w2 _ _ (w1 _ _ upd_same)
              refine ⟨_, rfl, q, _, _, _, rfl, rfl, ixb ls12, rfl, ?_⟩
              have gx2 : GvS p _ n (.ref v) (ss ++ [(0, 0)]) := gv_starts ls12.hh upd_same ((ls9.hh.same s11).ne nv).1.symm (by
                rw [List.map_append]
                exact (im_all_kt (Kt.of s12) ims9).snoc (.tup et (.cons (.int 0) (.cons (.int 0) .nil)))) (fun s hs => by
                rcases List.mem_append.mp hs with hs | hs
                · exact ba.so s hs
                · rw [List.mem_singleton.mp hs]; exact ⟨⟨Int.le_refl 0, by show (0 : Int) < n; omega⟩, by show (-20 : Int) ≤ 0; decide, by show (0 : Int) ≤ 20; decide⟩) (by rw [List.length_append]; show _ + 1 ≤ 60; omega)
              refine made ls12.hh (by omega) gx2 (ls12.ba.ga ls12.hh (Int.le_refl n)) fun m1 r1 H13 s13 ma13 => ?_
              have ls13 := ls12.same s13
              have k13 := s12.trans s13
              refine mach_ne (ma9.kt (Kt.of k13)) ma13 (.inr (.inl (by rw [List.length_append]; show _ ≠ _ + 1; omega))) ⟨_, rfl, iteF ?_⟩
              refine ⟨_, rfl, _, rfl, q, _, _, _, rfl, rfl, ixb ls13, rfl, _, rfl, q, _, _, _, rfl, rfl, ixb ls13, rfl, _, rfl, q, _, _, _, rfl, rfl, ixb ls13, rfl, _, rfl, l2, ys9, rfl, SqL.of (k13 _ _ ea9), fun v2 nv2 => ?_⟩
              rw [show cutV ys9 (some 1) none = ys9.drop 1 from cut_from (i := 1)]
              have s14 := same_new (o := .lst (ys9.drop 1)) (Same.refl H13) nv2
              have ls14 := ls13.same s14
              have gy2 : GvA p _ n (.ref v2) (rs.drop 1) := gv_arrows ls14.hh upd_same (ls13.hh.ne nv2).1.symm (by
                rw [List.map_drop]
                exact (im_all_kt (Kt.of (k13.trans s14)) ima9).drop 1) (fun r hr => ba.ao r (List.mem_of_mem_drop hr)) (by rw [List.length_drop]; omega)
              refine made ls14.hh (by omega) (ls14.ba.gs ls14.hh (Int.le_refl n)) gy2 fun m2 r2 H15 s15 ma15 => ?_
              have rpos : 0 < rs.length := List.length_pos_iff.mpr ba.ne
              have k15 := (k13.trans s14).trans s15
              exact mach_ne (ma9.kt (Kt.of k15)) ma15 (.inr (.inr (by rw [List.length_drop]; omega))) ⟨_, rfl, iteF ⟨rfl, ls14.same s15, ma9.kt (Kt.of k15)⟩⟩
            · rintro _ H10 ⟨rfl, ls10, ma10⟩
              obtain ⟨xs10, es10, ims10⟩ := id ls10.ba.st
              obtain ⟨ys10, ea10, ima10⟩ := id ls10.ba.ar
              have lx10 := ims10.len
              have ly10 := ima10.len
              rw [List.length_map] at lx10 ly10
              have hh10 := ls10.hh
              refine ⟨fun σ H => ∃ L : Addr, σ = [some (.ref a), some (.ref p), some (.ref q), some (.ref g), some (.ref m), some (.int r'), some (.int (blockOf (toldOf rs))), some (.ref L), none, none, none, none, none, none, none] ∧ ShSt p c L H10 rwS ss ss.length H ∧ Same H10 H, ?_, ?_⟩
              · refine ⟨_, rfl, q, _, _, _, rfl, rfl, ixb ls10, rfl, l1, rfl, ⟨xs10, SqL.of es10⟩, fun D hD => ?_⟩
                refine lc_it walk_list (fun i H => ShSt p c D H10 rwS ss i H ∧ Same H10 H) ⟨ShSt.init hh10 hD, same_new (Same.refl H10) hD⟩ (fun i H _ h => SqL.of (h.2 _ _ es10)) ?_ ?_
                · rintro i v H5 H6 hi ⟨h5, s5⟩ ⟨rfl, e6⟩
                  have e6 := e6
                  obtain ⟨dd, e7, iv⟩ := ims10.get e6
                  rw [List.getElem?_map] at e7
                  obtain ⟨s, er, rfl⟩ := Option.map_eq_some_iff.mp e7
                  obtain ⟨t1, rfl, et1⟩ := (Im.kt (Kt.of s5) _ _ iv).st
                  refine ⟨rfl, _, rfl, t1, _, rfl, .inr (SqT.of et1), fun l nl => ?_⟩
                  have s6 := same_new (o := .lst [V.int s.1, V.int s.2]) (Same.refl H6) nl
                  obtain ⟨acc, e8, l8, h8⟩ := h5.step (fun _ _ _ _ _ h => h) (fun _ _ _ h => ⟨_, _, h⟩) (.inl upd_same) (h5.hh.ne nl).1.symm (h5.hh.same s6) (But.of s6) er rfl (by omega)
                  exact ⟨acc, e8, l8, h8, same_at (s5.trans s6) hD⟩
                · rintro H5 ⟨h5, s5⟩
                  rw [lx10] at h5
                  exact ⟨D, rfl, h5, s5⟩
              · rintro _ H11 ⟨L, rfl, h11, s11⟩
                have ls11 := ls10.same s11
                refine ⟨fun σ H => ∃ W : Addr, σ = [some (.ref a), some (.ref p), some (.ref q), some (.ref g), some (.ref m), some (.int r'), some (.int (blockOf (toldOf rs))), some (.ref L), some (.ref W), none, none, none, none, none, none] ∧ ShSt p c W H11 rwA rs rs.length H ∧ Same H11 H ∧ ∀ acc, H W = some (.lst acc) → ∀ v ∈ acc, ∃ b r, v = .ref b ∧ r ∈ rs ∧ H11 b = none ∧ b ≠ W ∧ ∃ mm, H b = some (.lst [.int r.o, mm, .int r.t]), ?_, ?_⟩
                · refine ⟨_, rfl, q, _, _, _, rfl, rfl, ixb ls11, rfl, l2, rfl, ⟨ys10, SqL.of (s11 _ _ ea10)⟩, fun D hD => ?_⟩
                  refine lc_it walk_list (fun i H => ShSt p c D H11 rwA rs i H ∧ Same H11 H ∧ ∀ acc, H D = some (.lst acc) → ∀ v ∈ acc, ∃ b r, v = .ref b ∧ r ∈ rs ∧ H11 b = none ∧ b ≠ D ∧ ∃ mm, H b = some (.lst [.int r.o, mm, .int r.t])) ⟨ShSt.init ls11.hh hD, same_new (Same.refl H11) hD, fun acc e v hv => by rw [upd_same] at e; cases e; cases hv⟩ (fun i H _ h => SqL.of (h.2.1 _ _ (s11 _ _ ea10))) ?_ ?_
                  · rintro i v H5 H6 hi ⟨h5, s5, f5⟩ ⟨rfl, e6⟩
                    have e6 := e6
                    obtain ⟨dd, e7, iv⟩ := ima10.get e6
                    rw [List.getElem?_map] at e7
                    obtain ⟨r, er, rfl⟩ := Option.map_eq_some_iff.mp e7
                    obtain ⟨t1, m1, rfl, et1, mr⟩ := (Im.kt (Kt.of (s11.trans s5)) _ _ iv).ar
                    refine ⟨rfl, _, rfl, t1, _, rfl, .inr (SqT.of et1), fun l nl => ?_⟩
                    have s6 := same_new (o := .lst [V.int r.o, V.ref m1, V.int r.t]) (Same.refl H6) nl
                    obtain ⟨acc, e8, l8, h8⟩ := h5.step rwA_kt (fun _ _ _ ⟨_, h, _⟩ => ⟨_, _, h⟩) (.inl upd_same) (h5.hh.ne nl).1.symm (h5.hh.same s6) (But.of s6) er ⟨m1, rfl, Im.kt (Kt.of s6) _ _ (im_mv mr)⟩ (by omega)
                    refine ⟨acc, e8, l8, h8, same_at (s5.trans s6) hD, fun acc2 e9 v hv => ?_⟩
                    rw [upd_same] at e9
                    cases e9
                    have lD : l ≠ D := fun z => by
                      obtain ⟨acc0, e0, _⟩ := h5.x
                      rw [← z, nl] at e0
                      cases e0
                    rcases List.mem_append.mp hv with hv | hv
                    · have e5 : H6 D = some (.lst acc) := by rw [← e8, upd_ne lD.symm]
                      obtain ⟨b, r2, e1, e2, e3, e4, mm, e10⟩ := f5 acc e5 v hv
                      exact ⟨b, r2, e1, e2, e3, e4, mm, by rw [upd_ne e4]; exact s6 _ _ e10⟩
                    · exact ⟨l, r, List.mem_singleton.mp hv, List.mem_of_getElem? er, s5.free nl, lD, _, by rw [upd_ne lD]; exact upd_same⟩
                  · rintro H5 ⟨h5, s5, f5⟩
                    rw [ly10] at h5
                    exact ⟨D, rfl, h5, s5, f5⟩
                · rintro _ H12 ⟨W, rfl, h12, s12, f12⟩
                  have ls12 := ls11.same s12
                  obtain ⟨aL, eL, lL, hL⟩ := h11.x
                  obtain ⟨aW, eW, lW, hW⟩ := h12.x
                  have Lp : L ≠ p := (hh10.ne h11.nD).1.symm
                  have Wp : W ≠ p := (ls11.hh.ne h12.nD).1.symm
                  have GX : GvS p H12 n (.ref L) ss := gvs_of (.inl (s12 _ _ eL)) Lp lL (by omega) ba.so fun j v ej => by
                    obtain ⟨b, s, ys, e1, e2, bp, _, q, w⟩ := hL j v ej
                    exact ⟨b, s, ys, e1, e2, bp, q.but bp (But.of s12), w⟩
                  have GY : GvA p H12 n (.ref W) rs := gva_of ls12.hh (.inl eW) Wp lW (by omega) ba.ao fun j v ej => by
                    obtain ⟨b, s, ys, e1, e2, bp, _, q, w⟩ := hW j v ej
                    exact ⟨b, s, ys, e1, e2, bp, q, w⟩
                  refine ⟨_, rfl, q, _, _, _, rfl, rfl, ixb ls12, rfl, _, rfl, _, rfl, ?_⟩
                  refine made ls12.hh (by omega) GX GY fun o ro H13 s13 mo => ?_
                  have ls13 := ls12.same s13
                  have s1013 := (s11.trans s12).trans s13
                  have eL13 := s13 _ _ (s12 _ _ eL)
                  have eW13 := s13 _ _ eW
                  refine ⟨_, rfl, .inl ⟨rfl, _, SqL.of eL13⟩, (by show 2 ≤ sizeLine; decide), fun u nu => ?_⟩
                  have s14 := same_new (o := .lst [V.int 0, V.int 1]) (Same.refl H13) nu
                  have eL14 := s14 _ _ eL13
                  have eW14 := s14 _ _ eW13
                  refine ⟨L, aL, _, rfl, rfl, eL14, smallB (by omega), ?_⟩
                  have WL : W ≠ L := fun z => by
                    have := h12.nD
                    rw [z, eL] at this
                    cases this
                  have k15 : Kt H13 _ := (Kt.of s14).trans (Kt.lst (ys := aL ++ [.ref u]) eL14)
                  have s15 : Same H10 _ := same_at (o := .lst (aL ++ [.ref u])) (s1013.trans s14) h11.nD
                  have ls15 := ls10.same s15
                  generalize hH15 : upd (upd H13 u (.lst [V.int 0, V.int 1])) L (.lst (aL ++ [.ref u])) = H15 at *
                  have eW15 : H15 W = some (.lst aW) := by rw [← hH15, upd_ne WL]; exact eW14
                  obtain ⟨b0, r0, e1, hr0, nb0, bW, mm, eb0⟩ := f12 aW eW (aW[0]'(by have := List.length_pos_iff.mpr ba.ne; omega)) (List.getElem_mem _)
                  have a0 : atI aW 0 = some (.ref b0) := by
                    rw [← e1]
                    exact atI_nat (j := 0) (List.getElem?_eq_getElem _)
                  have bL : b0 ≠ L := fun z => by rw [z, eL] at nb0; cases nb0
                  have bu : H15 b0 = some (.lst [.int r0.o, mm, .int r0.t]) := by rw [← hH15, upd_ne bL]; exact s14 _ _ (s13 _ _ eb0)
                  refine ⟨_, rfl, W, _, _, _, rfl, rfl, SqL.of eW15, a0, ?_⟩
                  refine ⟨_, rfl, q, _, _, _, rfl, rfl, ixb ls15, rfl, _, rfl, b0, _, 2, 2, rfl, rfl, bu, rfl, ?_⟩
                  have nb10 : H10 b0 = none := s11.free nb0
                  have k16 := Kt.lst (ys := ([.int r0.o, mm, .int r0.t] : List V).set 2 (.int n)) bu
                  have s16 : Same H10 _ := same_at (o := .lst (([.int r0.o, mm, .int r0.t] : List V).set 2 (.int n))) s15 nb10
                  have eW16 : upd H15 b0 (.lst (([.int r0.o, mm, .int r0.t] : List V).set 2 (.int n))) W = some (.lst aW) := by rw [upd_ne bW.symm]; exact eW15
                  refine ⟨_, rfl, .inl ⟨rfl, _, SqL.of eW16⟩, (by show 1 ≤ sizeLine; decide), fun t nt => ⟨(by show 3 ≤ sizeLine; decide), fun u2 nu2 => ?_⟩⟩
                  have s17 := same_new (o := .tup [V.str "stay"]) (Same.refl _) nt
                  have s18 := same_new (o := .lst [V.int 0, V.ref t, V.int 0]) s17 nu2
                  have eW18 := s18 _ _ eW16
                  refine ⟨W, aW, _, rfl, rfl, eW18, smallB (by omega), ?_⟩
                  have k19 : Kt H13 _ := ((k15.trans k16).trans (Kt.of s18)).trans (Kt.lst (ys := aW ++ [.ref u2]) eW18)
                  have nW10 : H10 W = none := s11.free h12.nD
                  have s19 : Same H10 _ := same_at (o := .lst (aW ++ [.ref u2])) (s16.trans s18) nW10
                  have ls19 := ls10.same s19
                  have mo19 := mo.kt k19
                  have ma19 := ma10.kt (Kt.of s19)
                  refine ⟨fun σ H => σ = [some (.ref a), some (.ref p), some (.ref q), some (.ref g), some (.ref m), some (.int r'), some (.int (blockOf (toldOf rs))), some (.ref L), some (.ref W), some (.ref o), some (.ref b0), none, none, none, none] ∧ LS K p c q l1 l2 n ss rs g x y H ∧ MachAt (He.ga K "Machine") H m n ss rs r', ?_, ?_⟩
                  · refine ⟨_, rfl, _, rfl, mach_eq mo19 ma19 ⟨_, rfl, iteF ?_⟩⟩
                    obtain ⟨xs19, es19, ims19⟩ := id ls19.ba.st
                    obtain ⟨ys19, ea19, ima19⟩ := id ls19.ba.ar
                    obtain ⟨dxo, ao, bo, lo, ho, iro, iao, ibo, _⟩ := id mo19
                    refine ⟨_, rfl, o, _, dxo, _, _, rfl, ho, S.T.cl, S.T.n2, mf_starts, _, rfl, q, _, _, _, rfl, rfl, ixb ls19, rfl, l1, xs19, rfl, .inl ⟨SqL.of es19, fun q1 n1 => ?_⟩⟩
                    have v1 := same_new (o := .tup xs19) (Same.refl _) n1
                    have ls20 := ls19.same v1
                    refine ⟨_, _, Im.dp _ _ (Im.kt (Kt.of v1) _ _ iao), .tup (SqT.of upd_same) (TgAll.dp _ _ ((tg_starts ls19.hh ims19).same v1)), shp_starts ss, shp_starts ss, _, rfl, ?_⟩
                    rw [show PyData.eqv (startsD ss) (.tuple (ss.map stD)) = true from shp_refl (shp_starts ss)]
                    refine iteF ?_
                    refine ⟨_, rfl, o, _, dxo, _, _, rfl, v1 _ _ ho, S.T.cl, S.T.n3, mf_arrows, _, rfl, q, _, _, _, rfl, rfl, ixb ls20, rfl, l2, ys19, rfl, .inl ⟨SqL.of (v1 _ _ ea19), fun q2 n2 => ?_⟩⟩
                    have v2 := same_new (o := .tup ys19) v1 n2
                    have ls21 := ls19.same v2
                    refine ⟨_, _, Im.dp _ _ (Im.kt (Kt.of v2) _ _ ibo), .tup (SqT.of upd_same) (TgAll.dp _ _ ((tg_arrows ls19.hh ima19).same v2)), shp_arrows rs, shp_arrows rs, _, rfl, ?_⟩
                    rw [show PyData.eqv (arrowsD rs) (.tuple (rs.map Ar.d)) = true from shp_refl (shp_arrows rs)]
                    exact iteF ⟨rfl, ls21, ma19.kt (Kt.of v2)⟩
                  · rintro _ H20 ⟨rfl, ls20, ma20⟩
                    refine ⟨_, rfl, p, c, rfl, ls20.hh, fun x0 d0 H21 t0 o0 hh21 b21 => ⟨_, rfl, p, c, rfl, hh21, fun x1 d1 H22 t1 o1 hh22 b22 => ⟨(by show 2 ≤ sizeLine; decide), fun D nD => ?_⟩⟩⟩
                    have s23 := same_new (o := .lst [x0, x1]) (Same.refl H22) nD
                    have b23 : But p H20 _ := (b21.trans b22).trans (But.of s23)
                    have ls23 := ls20.but b23 (hh22.same s23)
                    have ma23 := ma20.kt (Kt.hand ls20.hh b23)
                    have od : ∀ (i : Nat) v, ([x0, x1] : List V)[i]? = some v → ∃ d, Tg p (upd H22 D (.lst [x0, x1])) v d ∧ fmT d = false := fun i v hv => by
                      match i, hv with
                      | 0, hv => cases hv; exact ⟨d0, (Tg.but b22 _ _ t0).same s23, o0.1⟩
                      | 1, hv => cases hv; exact ⟨d1, t1.same s23, o1.1⟩
                    refine ⟨D, rfl, ⟨_, SqL.of upd_same⟩, for_it walk_list (fun i σ H => ∃ y' : Option V, σ = [some (.ref a), some (.ref p), some (.ref q), some (.ref g), some (.ref m), some (.int r'), some (.int (blockOf (toldOf rs))), some (.ref L), some (.ref W), some (.ref o), some (.ref b0), y', none, none, none] ∧ Same (upd H22 D (.lst [x0, x1])) H) ⟨_, rfl, Same.refl _⟩ (fun i σ H _ ⟨_, _, s⟩ => SqL.of (s _ _ upd_same)) ?_ ?_⟩
                    · rintro i v σ H24 H25 hi ⟨y', rfl, s24⟩ ⟨rfl, e6⟩
                      obtain ⟨d, td, fd⟩ := od _ _ e6
                      refine ⟨_, rfl, p, v, d, rfl, td.same s24, fun _ t H26 s26 et => ⟨(by show 2 ≤ sizeLine; decide), fun u nu => ?_⟩, fun z => absurd (z.symm.trans fd) (fun z => Bool.noConfusion z)⟩
                      have s27 := same_new (o := .lst [V.str "bad", V.bl false]) (Same.refl H26) nu
                      have dd : ∀ {H : Hp} t, H t = some (.lst [.str "bad", .bl false]) → Dp K H (.ref t) (.list [.str "bad", .bool false]) := fun t e => .lst (SqL.of e) (.cons (.str _) (.cons (.bl _) .nil))
                      have sh : SeqAt.shaped (.list [.str "bad", .bool false]) = true := by kernel_rfl
                      refine ⟨_, _, dd _ (s27 _ _ et), dd _ upd_same, sh, sh, _, rfl, ?_⟩
                      rw [shp_refl sh]
                      exact iteF ⟨_, rfl, (s24.trans s26).trans s27⟩
                    · rintro σ H24 ⟨y', rfl, s24⟩
                      have ls24 := ls23.same s24
                      refine ⟨fun σ H => σ = [some (.ref a), some (.ref p), some (.ref q), some (.ref g), some (.ref m), some (.int r'), some (.int (blockOf (toldOf rs))), some (.ref L), some (.ref W), some (.ref o), some (.ref b0), y', none, none, none] ∧ LS K p c q l1 l2 n ss rs g x y H, ?_, ?_⟩
                      · refine ⟨_, rfl, _, rfl, _, rfl, _, rfl, p, c, m, n, r', ss, rs, rfl, ls24.hh, ma23.kt (Kt.of s24), nb, rl, fun H25 hh25 b25 => ⟨_, rfl, iteF ?_⟩⟩
                        have ls25 := ls24.but b25 hh25
                        obtain ⟨ys25, ea25, ima25⟩ := id ls25.ba.ar
                        refine ⟨_, rfl, _, rfl, q, _, _, _, rfl, rfl, ixb ls25, rfl, p, c, l2, ys25, rs, rfl, hh25, ea25, ba.ap, ima25, aok, fun H26 hh26 b26 => ⟨_, rfl, iteF ⟨rfl, ls25.but b26 hh26⟩⟩⟩
                      · rintro _ H26 ⟨rfl, ls26⟩
                        refine ⟨3, rfl, by decide, by decide, for_range (n := 3) (fun i σ H => ∃ y' z' : Option V, σ = [some (.ref a), some (.ref p), some (.ref q), some (.ref g), some (.ref m), some (.int r'), some (.int (blockOf (toldOf rs))), some (.ref L), some (.ref W), some (.ref o), some (.ref b0), y', z', none, none] ∧ LS K p c q l1 l2 n ss rs g x y H) ⟨_, _, rfl, ls26⟩ ?_ ?_⟩
                        · rintro i σ H27 hi ⟨y', z', rfl, ls27⟩
                          exact ⟨_, rfl, _, rfl, p, c, q, l1, l2, n, ss, rs, rfl, ls27.hh, ls27.ba, fun H28 hh28 b28 => ⟨_, rfl, iteF ⟨_, _, rfl, ls27.but b28 hh28⟩⟩⟩
                        · rintro σ H27 ⟨y', z', rfl, ls27⟩
                          refine ⟨_, rfl, p, c, 12, rfl, ls27.hh, ⟨by decide, by decide⟩, fun z H28 z0 z1 hh28 b28 => ⟨_, _, rfl, rfl, _, rfl, ite2 (fun hz => ?_) (fun hz => ?_)⟩⟩
                          · first | exact k _ | (rw [hz]; exact k _)
                          · exact ⟨_, rfl, p, c, rfl, hh28, fun H29 _ _ => k H29⟩
    obtain ⟨tt, d, q⟩ := main
    exact ⟨tt, d.nox, q⟩
end
end My
set_option Elab.async false
set_option linter.all false
set_option maxRecDepth 100000
set_option maxHeartbeats 8000000
namespace My
open PySem PySem.Spec PyProof.Rows L2
local macro_rules | `(tactic| walk_at "lv") => `(tactic| first | exact Or.inl rfl | exact Or.inr rfl)
/-! ### what the law stands on -/
theorem mach_txt {K : PySem.W.Frag} {mg : Str → Option Value} (h : machB K = true) (c : clB K = true) (g : mg "Machine" = some (.ref (He.ga K "Machine"))) : MachTxt K mg (He.ga K "Machine") := by
  obtain ⟨h1, h⟩ := and_ok h
  obtain ⟨h2, h⟩ := and_ok h
  obtain ⟨h3, h⟩ := and_ok h
  obtain ⟨h4, h⟩ := and_ok h
  obtain ⟨h5, h⟩ := and_ok h
  obtain ⟨h6, h7⟩ := and_ok h
  obtain ⟨c1, c2⟩ := and_ok c
  have no : ∀ f, f ∈ (["stations", "starts", "arrows", "rim", "block", "leaving"] : List Str) → NoAttr K (He.ga K "Machine") f := fun f hf => He.noat_ok (List.all_eq_true.mp h2 f hf)
  exact ⟨He.cls_ok h1, no _ (by decide), no _ (by decide), no _ (by decide), no _ (by decide), no _ (by decide), no _ (by decide), g, of_decide_eq_true h5, of_decide_eq_true c1, of_decide_eq_true c2, of_decide_eq_true h6, of_decide_eq_true h7⟩
theorem law_src {P : Program} {w : World} {K : PySem.W.Frag} {h : Heap} {mg : Str → Option Value} (X : K.In h) (G : h.Ns mainGlobals mg) (b1 : facts K = true) (c : He5.SaysA [] fns K) (base : Heap) : LawSrc P w K mg base := by
  obtain ⟨f1, b1⟩ := and_ok b1
  obtain ⟨f2, b1⟩ := and_ok b1
  obtain ⟨f3, b1⟩ := and_ok b1
  obtain ⟨f4, b1⟩ := and_ok b1
  obtain ⟨f5, b1⟩ := and_ok b1
  obtain ⟨f6, f7⟩ := and_ok b1
  have fr : ∀ x, x ∈ blts → mg x = none := fun x hx => He.free_ok X G (List.all_eq_true.mp f1 x hx)
  have gl : ∀ x, x ∈ gnames → mg x = some (.ref (He.ga K x)) := fun x hx => He.glo_ok X G (List.all_eq_true.mp f2 x hx)
  have at_ : ∀ (i : Nat) (x : Str) (st : Stmt), fns[i]? = some (dG x st) → x ∈ gnames → At K mg x st := fun i x st hi hm => ⟨gl _ hm, c.def_ i (d := dG x st) hi⟩
  have am : ∀ (i : Nat) (m q : Str) (st : Stmt), fns[i]? = some (dM "Machine" m q st) → AtM K (He.ga K "Machine") (He.ma K (He.ga K "Machine") m) m q st := fun i m q st hi => c.def_ i (d := dM "Machine" m q st) hi
  have N : Nb mg := ⟨fr _ (by decide), fr _ (by decide), fr _ (by decide), fr _ (by decide), fr _ (by decide), fr _ (by decide), fr _ (by decide), fr _ (by decide), fr _ (by decide), fr _ (by decide), fr _ (by decide), fr _ (by decide), fr _ (by decide), fr _ (by decide)⟩
  obtain ⟨g1, g2⟩ := and_ok f6
  obtain ⟨g2, g3⟩ := and_ok g2
  obtain ⟨i0, g3⟩ := and_ok g3
  obtain ⟨i1, g3⟩ := and_ok g3
  obtain ⟨i2, g3⟩ := and_ok g3
  obtain ⟨i3, g3⟩ := and_ok g3
  obtain ⟨i4, g3⟩ := and_ok g3
  have gM := He.glo_ok X G g1
  have gLcm : mg "lcm" = some (.builtin "math.lcm") := PySem.W.mg_of X G (He.eqO_ok g2)
  have mMOST := He.int_ok X G i0
  have mMOST_REST := He.int_ok X G i1
  have mMOST_STATIONS := He.int_ok X G i2
  have mMOST_STARTS := He.int_ok X G i3
  have mMOST_ARROWS := He.int_ok X G i4
  have mFARTHEST_START := He.int_ok X G g3
  have T := mach_txt f3 f7 gM
  obtain ⟨_, l⟩ := and_ok f3
  obtain ⟨_, l⟩ := and_ok l
  obtain ⟨l3, l⟩ := and_ok l
  obtain ⟨l4, _⟩ := and_ok l
  have M := He.mkr_ok l3
  have mE := He.meth_ok l4
  obtain ⟨e1, e⟩ := and_ok f4
  obtain ⟨e2, e3⟩ := and_ok e
  have T0 : ExF K mg "BadMachine" "BookError" ["what", "at"] := exB_ok X G e1
  obtain ⟨d1, d2⟩ := and_ok f7
  obtain ⟨v1, v⟩ := and_ok f5
  obtain ⟨v2, v⟩ := and_ok v
  obtain ⟨v3, v4⟩ := and_ok v
  have gBE := He.glo_ok X G v4
  have kNo := of_decide_eq_true v3
  have TV : ExF K mg "BadMove" "BookError" [] := exB_ok X G v1
  have TB : Err1 K mg "BadMove" := ⟨TV, ⟨TV.ga, TV.gg, TV.exC, TV.dict, TV.ca, of_decide_eq_true d1, of_decide_eq_true d2, TV.mo⟩, of_decide_eq_true v2, gBE⟩
  have KT : KeepsI P w K mg base "BadMachine" ["what", "at"] := ki_BadMachine (c.def_ 54 (d := dM "BadMachine" "__init__" "BadMachine.__init__" (inClass (top 9) 0)) rfl) T0
  have EM : ErrM P w K mg base := ⟨T0, KT⟩
  have EM2 : ErrM2 P w K mg base := ⟨EM, xfB_ok e2, of_decide_eq_true e3, gBE, of_decide_eq_true d1, of_decide_eq_true d2⟩
  have G1 : Keeps CX0 P w K mg base "_law_hand" 1 ["_law_script"] (spHand K) := kp_hand (at_ 0 _ _ rfl (by decide)) N.int N.len N.abs
  have G2 : Keeps CX0 P w K mg base "_law_mixed" 1 ["_law_number", "_law_turn"] spMix := kp_mix (at_ 2 _ _ rfl (by decide)) N.int
  have G3 : Keeps CX0 P w K mg base "_law_draw" 2 ["_law_hand_here", "_law_many"] spDraw := kp_draw (at_ 1 _ _ rfl (by decide)) G2 N.int N.len
  have G4 : Keeps CX0 P w K mg base "_law_pick" 3 ["_law_hand_here", "_law_things"] spPick := kp_pick (at_ 4 _ _ rfl (by decide)) N G3
  have G5 : Keeps CX0 P w K mg base "_law_shape" 4 ["_law_hand_here", "_law_wide"] spLsh := kp_lsh (at_ 3 _ _ rfl (by decide)) G4
  have G6 : Keeps CX0 P w K mg base "_law_value" 3 ["_law_hand_here"] spVal := kp_val (at_ 6 _ _ rfl (by decide)) G3
  have G7 : Keeps CX0 P w K mg base "_law_letter" 4 ["_law_hand_here", "_law_most", "_law_moduli"] spLet := kp_let (at_ 8 _ _ rfl (by decide)) G3 G4 G6
  have G8 : Keeps CX0 P w K mg base "_law_test" 4 ["_law_hand_here", "_law_moduli"] spTes := kp_tes (at_ 9 _ _ rfl (by decide)) G3 G4 G6
  have G9 : Keeps CX0 P w K mg base "_law_move" 5 ["_law_hand_here", "_law_most", "_law_moduli"] spLmo := kp_lmo (at_ 7 _ _ rfl (by decide)) G3 G4 G7 G8
  have G10 : Keeps CX0 P w K mg base "_law_rings" 6 ["_law_hand_here", "_law_shape_here", "_law_cut"] spLrg := kp_lrg (at_ 10 _ _ rfl (by decide)) N G3 G4 G9
  have G11 : Keeps CX0 P w K mg base "_law_machine" 7 ["_law_hand_here", "_law_shape_here", "_law_many"] spLma := kp_lma (at_ 5 _ _ rfl (by decide)) N G3 G4 G6 G9 G10
  have G12 : Keeps CX0 P w K mg base "_law_shown" 3 ["_law_hand_here", "_law_things"] spLsw := kp_lsw (at_ 11 _ _ rfl (by decide)) N G3
  have G13 : Keeps CX0 P w K mg base "is_whole" 1 ["thing"] (spWhT K) := kp_whT (at_ 13 _ _ rfl (by decide)) N
  have G14 : Keeps CX0 P w K mg base "is_whole_from" 2 ["thing", "low", "high"] (spWfT K) := kp_wfT (at_ 12 _ _ rfl (by decide)) G13
  have G15 : Keeps CX0 P w K mg base "is_sequence" 1 ["thing"] (spSeqT K) := kp_seqT (at_ 15 _ _ rfl (by decide)) N
  have G16 : Keeps CX0 P w K mg base "is_sequence_of" 2 ["thing", "many"] (spSqo K) := kp_sqo (at_ 17 _ _ rfl (by decide)) N G15
  have G17 : Keeps CX0 P w K mg base "_is_start" 3 ["stations", "start"] (spIsS isStart) := kp_iss (at_ 16 _ _ rfl (by decide)) mFARTHEST_START G16 G14
  have G18 : Keeps (CX P w) P w K mg base "_checked_starts" 4 ["stations", "starts"] (spChkR K isStart 60 "starts" startsOf) := kp_cs (at_ 14 _ _ rfl (by decide)) N EM mMOST_STARTS G15 G17
  have G19 : Keeps CX0 P w K mg base "fits_letter" 3 ["letter"] (spFitT K flT) := kp_flT (at_ 21 _ _ rfl (by decide)) N mMOST mMOST_REST G15 G14
  have G20 : Keeps CX0 P w K mg base "fits_test" 3 ["test"] (spFitT K ftT) := kp_ftT (at_ 22 _ _ rfl (by decide)) N mMOST mMOST_REST G15 G14
  have G21 : Keeps CX0 P w K mg base "fits_move" 4 ["move"] (spFitT K fmT) := kp_fm (at_ 20 _ _ rfl (by decide)) N G15 G19 G20
  have G22 : Keeps CX0 P w K mg base "_is_arrow" 5 ["stations", "arrow"] (spIsS isArrow) := kp_isa (at_ 19 _ _ rfl (by decide)) G16 G14 G21
  have G23 : Keeps (CX P w) P w K mg base "check_move" 5 ["move"] (spCm K) := kp_cm (at_ 23 _ _ rfl (by decide)) N TB G21
  have G24 : Keeps (CX P w) P w K mg base "_checked_arrows" 6 ["stations", "arrows"] (spChkR K isArrow 4000 "arrows" arrowsOf) := kp_ca (at_ 18 _ _ rfl (by decide)) N EM mMOST_ARROWS G15 G22 G23
  have G25 : Keeps CX0 P w K mg base "_letters_and_tests" 1 ["arrows"] spLat := kp_lat (at_ 25 _ _ rfl (by decide))
  have G26 : Keeps CX0 P w K mg base "_rim_of" 2 ["starts", "arrows"] spRimT := kp_rim (at_ 24 _ _ rfl (by decide)) N (fr _ (by decide)) G25
  have G27 : Keeps CX0 P w K mg base "_block_of" 2 ["arrows"] spBlo := kp_blo (at_ 26 _ _ rfl (by decide)) N (fr _ (by decide)) gLcm G25
  have G28 : Keeps CX0 P w K mg base "_leaving" 1 ["stations", "arrows"] spLea := kp_lea (at_ 27 _ _ rfl (by decide)) N
  have G29 : KeepsM (CX P w) P w K mg base (He.ma K (He.ga K "Machine") "__init__") 7 ["self", "stations", "starts", "arrows"] (spMi K (He.ga K "Machine")) := kp_mi (am 52 _ _ _ rfl) T EM mMOST_STATIONS G14 G18 G24 G26 G27 G28
  have G30 : KeepsM CX0 P w K mg base (He.ma K (He.ga K "Machine") "__eq__") 1 ["self", "other"] (spMe (He.ga K "Machine")) := kp_me (am 53 _ _ _ rfl) T N
  have G31 : Keeps CX0 P w K mg base "_law_rim" 1 ["_law_starts", "_law_arrows"] spLri := kp_lri (at_ 28 _ _ rfl (by decide)) N (fr _ (by decide))
  have G32 : Keeps CX0 P w K mg base "_law_both_divide" 1 ["_law_one", "_law_other"] spBdv := kp_bdv (at_ 30 _ _ rfl (by decide)) N
  have G33 : Keeps CX0 P w K mg base "_law_block" 2 ["_law_arrows"] spLbl := kp_lbl (at_ 29 _ _ rfl (by decide)) N (fr _ (by decide)) G32
  have G34 : Keeps CX0 P w K mg base "_law_whole" 1 ["_law_thing"] spWhole := kp_lwh (at_ 31 _ _ rfl (by decide)) N
  have G35 : Keeps CX0 P w K mg base "_law_told" 9 ["_law_stations", "_law_starts", "_law_arrows"] (spLtd K) := kp_ltd (at_ 32 _ _ rfl (by decide)) N EM2 T M G29
  have G36 : Keeps CX0 P w K mg base "_law_odd_move" 4 ["_law_hand_here"] spOdM := kp_om (at_ 33 _ _ rfl (by decide)) G4
  have G37 : Keeps CX0 P w K mg base "_law_move_told" 6 ["_law_move_here"] spLmt := kp_lmt (at_ 34 _ _ rfl (by decide)) N TB T0.g kNo G23
  have G38 : Keeps CX0 P w K mg base "room_of" 1 ["machine", "station", "number"] (spRo (He.ga K "Machine")) := kp_ro (at_ 36 _ _ rfl (by decide)) T N (fr _ (by decide))
  have G39 : Keeps CX0 P w K mg base "_law_room" 1 ["_law_rim_here", "_law_block_here", "_law_station", "_law_number"] spLro := kp_lro (at_ 37 _ _ rfl (by decide)) N
  have G40 : Keeps CX0 P w K mg base "number_of" 1 ["machine", "room", "height"] (spNo (He.ga K "Machine")) := kp_no (at_ 38 _ _ rfl (by decide)) T
  have G41 : Keeps CX0 P w K mg base "_law_rooms_hold" 3 ["_law_hand_here", "_law_machine_here", "_law_rim_here", "_law_block_here"] (spRh (He.ga K "Machine")) := kp_rh (at_ 35 _ _ rfl (by decide)) T N G3 G38 G39 G40
  have G42 : Keeps CX0 P w K mg base "do_letter" 1 ["letter", "number"] spDeed := kp_do (at_ 41 _ _ rfl (by decide))
  have G43 : Keeps CX0 P w K mg base "passes" 1 ["test", "number"] spPass := kp_pass (at_ 42 _ _ rfl (by decide))
  have G44 : Keeps CX0 P w K mg base "move_number" 2 ["move", "number"] spMn := kp_mn (at_ 40 _ _ rfl (by decide)) G42 G43
  have G45 : Keeps CX0 P w K mg base "_law_deed" 1 ["_law_letter_here", "_law_number"] spDeed := kp_deed (at_ 44 _ _ rfl (by decide))
  have G46 : Keeps CX0 P w K mg base "_law_passes" 1 ["_law_test_here", "_law_number"] spPass := kp_lps (at_ 45 _ _ rfl (by decide)) N
  have G47 : Keeps CX0 P w K mg base "_law_moved" 2 ["_law_move_here", "_law_number"] spMn := kp_lmv (at_ 43 _ _ rfl (by decide)) G45 G46
  have G48 : Keeps CX0 P w K mg base "_law_moves_hold" 7 ["_law_hand_here", "_law_arrows"] spMh := kp_mh (at_ 39 _ _ rfl (by decide)) N G3 G4 G6 G44 G47 G37
  have G49 : Keeps CX0 P w K mg base "_law_odd_arrow" 5 ["_law_hand_here", "_law_stations"] spOdA := kp_oa (at_ 47 _ _ rfl (by decide)) G4 G36
  have G50 : Keeps CX0 P w K mg base "_law_odd_start" 4 ["_law_hand_here", "_law_stations"] spOdS := kp_os (at_ 48 _ _ rfl (by decide)) G3 G4
  have G51 : Keeps CX0 P w K mg base "_law_with_odd" 3 ["_law_hand_here", "_law_things", "_law_odds"] spWo := kp_wo (at_ 49 _ _ rfl (by decide)) N G3
  have G52 : Keeps CX0 P w K mg base "_law_refusals_hold" 10 ["_law_hand_here", "_law_base"] spRf := kp_rf (at_ 46 _ _ rfl (by decide)) N G3 G4 G49 G50 G51 G35
  have G53 : Keeps CX0 P w K mg base "_law_great_holds" 10 ["_law_hand_here"] spGh := kp_gh (at_ 50 _ _ rfl (by decide)) N G4 G35
  exact ⟨N, G1, G3, G5, G11, G12, T, M, G29, G30, mE.1, mE.2, G31, G33, G34, G35, G36, G37, G41, G48, G52, G53⟩
theorem law_at {K : PySem.W.Frag} {h : Heap} {mg : Str → Option Value} (X : K.In h) (G : h.Ns mainGlobals mg) (b1 : facts K = true) : mg "law" = some (.ref (He.ga K "law")) := by
  obtain ⟨_, b1⟩ := and_ok b1
  obtain ⟨f2, _⟩ := and_ok b1
  exact He.glo_ok X G (List.all_eq_true.mp f2 "law" (by decide))
theorem binds_law {K : PySem.W.Frag} {fd : FuncData} (F : FunD K "law" "law" (defArgs s_law) (defBody s_law) (defScope s_law) [] [] (He.ga K "law") fd) (s : Shared) (u : Value) : BindsTo s fd ⟨[u], []⟩ [("_law_script", u)] :=
  FunD.bindsA (ps := ["_law_script"]) F (fun _ _ _ _ _ _ us hl => match us, hl with | [_], _ => rfl) s [u] rfl
end My
set_option Elab.async false
set_option linter.all false
set_option maxRecDepth 100000
set_option maxHeartbeats 8000000
open PySem PySem.W PySem.Calls PyProof.Rows
theorem PySem.Challenge.cw_truebooks_k08_whole_machines_and_rooms_t_holds : PySem.Challenge.rw_truebooks_k08_whole_machines_and_rooms_t.Holds := by
  w_on; o_law
  refine HandSHeadRun.head_imp (r := My.R) (q := view My.R.prog [0, 68]) (H := My.hk) (ob := My.ob) (M := 12000) (loose := My.looseN) (d := HandSHeadRun.topDef My.R.prog 68) (kwd := []) My.ob_eq
    My.run (by kernel_rfl) (by kernel_rfl) (by kernel_rfl) (by rfl) (by first | assumption | decide +kernel) (by decide +kernel) ⟨rfl, rfl, rfl, rfl, rfl, by decide +kernel⟩ ?hw ?hc
  case hw => w_witness2
  case hc =>
    refine L2.walk_ofE (l := PySem.Challenge.rw_truebooks_k08_whole_machines_and_rooms_t) (n := 63) (k := 11) (x := "_law_script") (CX := L2.CX0) rfl (by decide) (by kernel_rfl) ⟨rfl, by decide, by decide⟩ ?F (fun _ _ _ _ z => z)
    intro w mg fa h Y G hmg0
    obtain ⟨K, KX, c⟩ := Y
    have c1 : My.facts K = true := congrArg (fun z : My.AlM => z.1) c
    have c2 : He5.SaysA [] My.fns K := congrArg (fun z : My.AlM => z.2) c
    have hmg : mg ("law" : PySem.Str) = some (.ref fa) := by
      have e : (HandSHeadRun.topDef My.R.prog 68).name = ("law" : PySem.Str) := by kernel_rfl
      rw [← e]
      exact hmg0
    obtain ⟨fd0, F0⟩ := c2.def_ 51 (d := My.dG "law" My.s_law) rfl
    have ea : fa = He.ga K "law" := by
      have m0 := My.law_at KX G c1
      rw [hmg] at m0
      exact Value.ref.inj (Option.some.inj m0)
    subst ea
    exact ⟨K, fd0, My.spLaw K, KX, fun s u => My.binds_law F0 s u, fun H a ns hl _ hS => ⟨a, ns, rfl, hS, hl, fun _ => rfl⟩, fun base _ _ => My.kp_law F0 (My.law_src KX G c1 c2 base)⟩
