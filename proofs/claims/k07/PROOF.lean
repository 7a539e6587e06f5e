import PyProof.Rows.All
import Wide.All
import OpenK.AllK
import HandS.Exc
import HandS.ExcInit
import HandS.ExcField
import HandS.Head0
import HandS.Head1
import HandS.Head2
import HandS.HeadEnd
import HandS.HeadHook1
import HandS.HeadHook2
import PySem.Challenge.RW_truebooks_k07_whole_letters_and_tests_on
import HandS.NoneIn
import HandS.OwnEq
import HandS.Property
import HandS.Flow
import HandS.HeadNt
import HandS.Head3
import Wide.FinOn
import HandS.ForMost
import HandS.Wide
import HandS.Walk
import HandS.Defaults
import HandS.ExcIs
import KE.KExcIs
import HandS.ExcValue
import HandS.IsInst
import HandS.TryOnly
import HandS.ExcOwn
import HandS.WordsExc
import HandS.HotCalls
import PyProof.LongRange
import HandS.DictComp
import HandS.Comp
import KE.KMathGC
import HandS.Deep
import HandS.Dict
import HandS.Gcd
import HandS.Conv
import HandS.TupAny
import HandS.More
set_option Elab.async false
set_option linter.all false
set_option maxRecDepth 100000
set_option maxHeartbeats 8000000
namespace My
open PySem PySem.Spec PyProof.Rows L2
def top (i : Nat) : Stmt := PySem.Challenge.pw_truebooks_k07_whole_letters_and_tests_on.main.body.getD i (.Pass ⟨0, 0, 0, 0⟩)
/-- the class at C: its name, its row of bases -/
def clsB (K : PySem.W.Frag) (C : Addr) (nm : Str) (bm : List Value) : Bool := match K.lookup C with
  | some ⟨.type t, _, .cls cd, sl⟩ => decide (t = "type") && (match cd.mro, sl.toList with
    | .ref C' :: r, [_, _, _, _, some (.builtin n), _] => decide (C' = C) && (decide (n = "ValueError.__new__") && (!cd.hasDel && (cd.hasDict && (decide (cd.name = nm) && decide (r = bm)))))
    | _, _ => false)
  | _ => false
def exB (K : PySem.W.Frag) (b : Str) (p : Str × List Str) : Bool :=
  (He.Fa.glo p.1).ok K && (clsB K (He.ga K p.1) p.1 (.ref (He.ga K b) :: He.veBase) && (decide (PySem.W.findIn K (.ref (He.ga K p.1)) "__setattr__" = some (some (.builtin "object.__setattr__"))) &&
  (decide (PySem.W.subIn K (.ref (He.ga K p.1)) (.type "BaseException") = some true) && (PySem.W.keepIn K (.ref (He.ga K p.1)) && (decide (PySem.W.findIn K (.ref (He.ga K p.1)) "__getattribute__" = some (some (.builtin "BaseException.__getattribute__"))) &&
  (decide (PySem.W.findIn K (.ref (He.ga K p.1)) "__getattr__" = some none) && (decide (PySem.W.findIn K (.ref (He.ga K p.1)) "__class__" = some (some (.builtin "object.__class__"))) && (decide (PySem.W.mroIn K (He.ga K p.1) (.type "object") = some true) &&
  ((p.2.all fun f => decide (PySem.W.findIn K (.ref (He.ga K p.1)) f = some none)) && (decide (PySem.W.kitOne K (.ref (He.ga K p.1)) (.ref (He.ga K b)) = some true) && (decide (PySem.W.kitOne K (.ref (He.ga K p.1)) (.type "ValueError") = some true) && (decide (PySem.W.exmOne K (.ref (He.ga K p.1)) (.ref (He.ga K b)) = some true) &&
  (match p.2 with
    | [] => PySem.W.excIn K (He.ga K p.1) He.veBase "ValueError.__new__"
    | _ => decide (PySem.W.findIn K (.ref (He.ga K p.1)) "__init__" = some (some (.ref (He.ma K (He.ga K p.1) "__init__")))) && decide (PySem.W.typeIn K (.ref (He.ma K (He.ga K p.1) "__init__")) = some (.type "function")))))))))))))))
def looseN : List Str := (["gcd", "lcm", "BookError", "BadLot", "TooLong", "BadLetter", "BadTest", "FARTHEST", "MOST_MODULUS", "Lot", "MOST", "MOST_REST", "is_whole", "is_whole_from", "is_sequence"] : List Str) ++ (["make_lot", "_check_core", "_are_unlike_from", "_lot_of", "_flags", "_places_of", "_least_modulus", "_repeats", "_greatest_wrong", "_least_wrong", "empty_lot", "whole_lot", "just_lot", "range_lot", "_common_modulus"] : List Str) ++ (["lot_flags", "moved_lot", "turned_lot", "rest_lot", "within", "least_by_size", "fits_letter", "fits_test", "check_letter", "check_test", "do_letter", "passes", "lot_of_test", "_lot_of_rests", "lot_after"] : List Str) ++ (["lot_before", "_law_hand", "_law_mixed", "_law_draw", "_law_pick", "_law_whole", "_law_value", "_law_letter", "_law_test", "_law_deed", "_law_passes", "_law_six", "_law_in", "_law_lot", "_law_images"] : List Str) ++ (["_law_image_has", "_law_numbers", "_law_lots_hold", "_law_numbers_hold", "_law_letter_told", "_law_test_told", "_law_odd_letter", "_law_odd_test", "_law_refusals_hold"] : List Str)
def dG (x : Str) (st : Stmt) : He5.DefA := ⟨fun K => He.ga K x, x, x, defArgs st, defBody st, defScope st, [], []⟩
def dM (c m q : Str) (st : Stmt) : He5.DefA := ⟨fun K => He.ma K (He.ga K c) m, m, q, defArgs st, defBody st, defScope st, [], []⟩
def gB (K : PySem.W.Frag) : Addr := He5.wf K (He.ga K "Lot") "property" "bare"
def dB : He5.DefA := ⟨gB, "bare", "Lot.bare", defArgs (inClass (top 14) 3), defBody (inClass (top 14) 3), defScope (inClass (top 14) 3), [], []⟩
def gfns : List He5.DefA := ([dG "is_whole" (top 2), dG "is_whole_from" (top 3), dG "is_sequence" (top 4), dG "make_lot" (top 15), dG "_check_core" (top 16), dG "_are_unlike_from" (top 17), dG "_lot_of" (top 18), dG "_flags" (top 19), dG "_places_of" (top 20), dG "_least_modulus" (top 21)] : List He5.DefA) ++
  ([dG "_repeats" (top 22), dG "_greatest_wrong" (top 23), dG "_least_wrong" (top 24), dG "empty_lot" (top 25), dG "whole_lot" (top 26), dG "just_lot" (top 27), dG "range_lot" (top 28), dG "_common_modulus" (top 29), dG "lot_flags" (top 30), dG "moved_lot" (top 31)] : List He5.DefA) ++
  ([dG "turned_lot" (top 32), dG "rest_lot" (top 33), dG "within" (top 34), dG "least_by_size" (top 35), dG "fits_letter" (top 39), dG "fits_test" (top 40), dG "check_letter" (top 41), dG "check_test" (top 42), dG "do_letter" (top 43), dG "passes" (top 44)] : List He5.DefA) ++
  ([dG "lot_of_test" (top 45), dG "_lot_of_rests" (top 46), dG "lot_after" (top 47), dG "lot_before" (top 48), dG "_law_hand" (top 50), dG "_law_mixed" (top 51), dG "_law_draw" (top 52), dG "_law_pick" (top 53), dG "_law_whole" (top 54), dG "_law_value" (top 55)] : List He5.DefA) ++
  ([dG "_law_letter" (top 56), dG "_law_test" (top 57), dG "_law_deed" (top 58), dG "_law_passes" (top 59), dG "_law_six" (top 60), dG "_law_in" (top 61), dG "_law_lot" (top 62), dG "_law_images" (top 63), dG "_law_image_has" (top 64), dG "_law_numbers" (top 65)] : List He5.DefA) ++
  ([dG "_law_lots_hold" (top 66), dG "_law_numbers_hold" (top 67), dG "_law_letter_told" (top 68), dG "_law_test_told" (top 69), dG "_law_odd_letter" (top 70), dG "_law_odd_test" (top 71), dG "_law_refusals_hold" (top 72), dG "law" (top 73)] : List He5.DefA)
def mfns : List He5.DefA := [dM "Lot" "__init__" "Lot.__init__" (inClass (top 14) 0), dM "Lot" "__contains__" "Lot.__contains__" (inClass (top 14) 2), dM "Lot" "__eq__" "Lot.__eq__" (inClass (top 14) 1), dM "TooLong" "__init__" "TooLong.__init__" (inClass (top 8) 0), dB]
def fns : List He5.DefA := gfns ++ mfns
def gnames : List Str := gfns.map (·.name)
abbrev AlM : Type := Bool × He.AlD
def obsM (b : PySem.W.Frag → Bool) (K : PySem.W.Frag) : AlM := (b K, He5.obsA [] fns K)
def hookM (n : Nat) (b : PySem.W.Frag → Bool) : PySem.W.Hook where
  α := AlM
  obs := fun s => obsM b (He.frG s.heap.get? (He.asD s.heap.get? n))
  val := fun _ => (true, He5.valA fns)
  says := fun _ h => ∃ K : PySem.W.Frag, K.In h ∧ obsM b K = (true, He5.valA fns)
  of := fun _ _ e => ⟨_, He.frG_in, e⟩
  keeps := fun _ _ _ ⟨F, inF, says⟩ k => ⟨F, PySem.W.Frag.In.keeps inF k, says⟩
theorem obsM_eq {n : Nat} {b : PySem.W.Frag → Bool} {g : Addr → Option Obj} {s : Shared} (h : ∀ a, g a = s.heap.get? a) : obsM b (He.frG g (He.asD g n)) = (hookM n b).obs s := by
  have same : g = s.heap.get? := funext h
  rw [same] <;> rfl
def blts : List Str := ["int", "bool", "str", "list", "tuple", "isinstance", "enumerate", "abs", "len", "range", "min", "all", "any", "ValueError", "sorted", "max"]
def lotB (K : PySem.W.Frag) : Bool := (He.Fa.cls "Lot").ok K && ((["low", "high", "inside", "modulus", "ups", "downs"] : List Str).all (fun f => (He.Fa.noat "Lot" f).ok K) && ((He.Fa.mkr "Lot").ok K && ((He.Fa.meth "Lot" "__contains__").ok K && ((He.Fa.meth "Lot" "__eq__").ok K &&
  (decide (PySem.W.findIn K (.ref (He.ga K "Lot")) "__class__" = some (some (.builtin "object.__class__"))) && (decide (PySem.W.mroIn K (He.ga K "Lot") (.type "object") = some true) && (decide (PySem.W.kitOne K (.ref (He.ga K "Lot")) (.type "str") = some false) && decide (PySem.W.kitOne K (.ref (He.ga K "Lot")) (.ref (He.ga K "Lot")) = some true))))))))
def pB (K : PySem.W.Frag) : Addr := He.ma K (He.ga K "Lot") "bare"
def propB (K : PySem.W.Frag) : Bool := decide (PySem.W.findIn K (.ref (He.ga K "Lot")) "bare" = some (some (.ref (pB K)))) && (decide (PySem.W.specialIn K (.ref (pB K)) "__get__" = some (some (.builtin "property.__get__"))) && (decide (PySem.W.takesIn K (.ref (pB K)) = some true) && (match PySem.W.recIn K (pB K) "property" with
    | some (.ref _ :: _) => true
    | _ => false)))
def tlB (K : PySem.W.Frag) : Bool := exB K "BookError" ("TooLong", ["most"])
def conB (K : PySem.W.Frag) : Bool := (He.Fa.glo "Lot").ok K && ((He.Fa.int "FARTHEST" 20000).ok K && ((He.Fa.int "MOST_MODULUS" 10080).ok K && (He.eqO (PySem.W.nsIn K mainGlobals "lcm") (some (some (.builtin "math.lcm"))) && (He.eqO (PySem.W.nsIn K mainGlobals "gcd") (some (some (.builtin "math.gcd"))) && ((He.Fa.int "MOST" 20).ok K && (He.Fa.int "MOST_REST" 6).ok K)))))
def erB (K : PySem.W.Frag) (x y : Str) : Bool := exB K "BookError" (x, []) && (decide (PySem.W.exmOne K (.ref (He.ga K x)) (.ref (He.ga K x)) = some true) && (decide (PySem.W.kitOne K (.ref (He.ga K x)) (.ref (He.ga K y)) = some false) && (He.Fa.glo "BookError").ok K))
def clB (K : PySem.W.Frag) : Bool := decide (PySem.W.specialIn K (.builtin "object.__class__") "__get__" = some (some (.builtin "getset_descriptor.__get__"))) && decide (PySem.W.takesIn K (.builtin "object.__class__") = some true)
def facts (K : PySem.W.Frag) : Bool := (blts.all fun x => (He.Fa.free x).ok K) && ((gnames.all fun x => (He.Fa.glo x).ok K) && (lotB K && (propB K && (tlB K && (conB K && (clB K && (erB K "BadLetter" "BadTest" && erB K "BadTest" "BadLetter")))))))
abbrev R : PySem.W.OpenRow := PySem.W.OpenLaw.row PySem.Challenge.rw_truebooks_k07_whole_letters_and_tests_on
abbrev hk : PySem.W.Hook := hookM 5 facts
def ob (s : PySem.W.SharedT) : AlM := obsM facts (He.frG (HandSHeadRun.getT s) (He.asD (HandSHeadRun.getT s) 5))
theorem ob_eq (s : PySem.W.SharedT) : ob s = hk.obs s.abs := obsM_eq (HandSHeadRun.getT_eq s)
theorem run (w : World) : HandSHeadRun.RunEqI R (PySem.W.view R.prog [0, 73]) hk ob 12000 looseN w := by
  unfold HandSHeadRun.RunEqI
  kernel_rfl
end My
set_option linter.all false
namespace My
/-! ### the mathematics of lots: plain Lean -/
def cyc (l : List Bool) (n : Int) : Bool := l.getD (n % (l.length : Int)).toNat false
def Per (f : Int → Bool) (d : Nat) : Prop := ∀ n : Int, f (n + d) = f n
theorem Per.mul {f : Int → Bool} {d : Nat} (h : Per f d) (k : Nat) : Per f (d * k) := by
  induction k with
  | zero => intro n; simp
  | succ k ih =>
    intro n
    have e : n + ((d * (k + 1) : Nat) : Int) = (n + ((d * k : Nat) : Int)) + (d : Int) := by
      rw [Nat.mul_succ]; push_cast; omega
    rw [e, h, ih]
theorem Per.back {f : Int → Bool} {d : Nat} (h : Per f d) (n : Int) : f (n - d) = f n := by
  have := h (n - d)
  rw [← this]; congr 1; omega
theorem Per.mulI {f : Int → Bool} {d : Nat} (h : Per f d) (k : Int) (n : Int) : f (n + d * k) = f n := by
  rcases Int.le_total 0 k with hk | hk
  · obtain ⟨j, rfl⟩ := Int.eq_ofNat_of_zero_le hk
    have := h.mul j n
    push_cast at this
    exact this
  · obtain ⟨j, hj⟩ := Int.eq_ofNat_of_zero_le (by omega : 0 ≤ -k)
    have e : k = -(j : Int) := by omega
    subst e
    have := (h.mul j).back n
    push_cast at this
    rw [← this]; congr 1; rw [Int.mul_neg]; omega
theorem Per.mod {f : Int → Bool} {d : Nat} (h : Per f d) (n : Int) : f (n % d) = f n := by
  have e := Int.emod_add_mul_ediv n (d : Int)
  have := h.mulI (n / d) (n % d)
  rw [e] at this
  exact this.symm
/-- two numbers alike modulo a period -/
theorem Per.cong {f : Int → Bool} {d : Nat} (h : Per f d) {a b : Int} (e : a % (d : Int) = b % (d : Int)) : f a = f b := by
  rw [← h.mod a, ← h.mod b, e]
theorem cyc_per {l : List Bool} : Per (cyc l) l.length := by
  intro n
  unfold cyc
  rw [Int.add_emod_right]
theorem cyc_lt {l : List Bool} {k : Nat} (h : k < l.length) : cyc l (k : Int) = l.getD k false := by
  unfold cyc
  have : ((k : Int) % (l.length : Int)).toNat = k := by
    rw [Int.emod_eq_of_lt (by omega) (by omega)]; rfl
  rw [this]
/-- least common period of two functions -/
structure Least (U D : Int → Bool) (d : Nat) : Prop where
  pos : 0 < d
  pu : Per U d
  pd : Per D d
  le : ∀ e : Nat, 0 < e → Per U e → Per D e → d ≤ e
theorem Least.dvd {U D : Int → Bool} {d m : Nat} (h : Least U D d) (hm : 0 < m) (pu : Per U m) (pd : Per D m) : m % d = 0 := by
  have key : ∀ {f : Int → Bool}, Per f d → Per f m → Per f (m % d) := by
    intro f hd hm' n
    have e := Nat.mod_add_div m d
    have e2 : n + ((m % d : Nat) : Int) = (n + (m : Int)) - ((d * (m / d) : Nat) : Int) := by
      have : (m : Int) = ((m % d + d * (m / d) : Nat) : Int) := by rw [e]
      rw [this]; push_cast; omega
    rw [e2, (hd.mul (m / d)).back, hm']
  rcases Nat.eq_zero_or_pos (m % d) with h0 | h0
  · exact h0
  · have := h.le _ h0 (key h.pu pu) (key h.pd pd)
    have := Nat.mod_lt m h.pos
    omega
theorem least_ex {U D : Int → Bool} : ∀ m : Nat, 0 < m → Per U m → Per D m → ∃ d, Least U D d := by
  intro m
  induction m using Nat.strongRecOn with | ind m ih =>
    intro hm pu pd
    by_cases h : ∃ e, 0 < e ∧ e < m ∧ Per U e ∧ Per D e
    · obtain ⟨e, he, hlt, pu', pd'⟩ := h
      exact ih e hlt he pu' pd'
    · refine ⟨m, hm, pu, pd, fun e he pu' pd' => ?_⟩
      rcases Nat.lt_or_ge e m with q | q
      · exact absurd ⟨e, he, q, pu', pd'⟩ h
      · exact q
theorem Least.unique {U D : Int → Bool} {d e : Nat} (h : Least U D d) (g : Least U D e) : d = e :=
  Nat.le_antisymm (h.le e g.pos g.pu g.pd) (g.le d h.pos h.pu h.pd)
/-- lists: d divides the length, and what stands at k stands at k mod d: a period of cyc -/
theorem per_of {l : List Bool} {d : Nat} (hd : 0 < d) (hm : l.length % d = 0) (h : ∀ k, k < l.length → l.getD k false = l.getD (k % d) false) : Per (cyc l) d := by
  rcases Nat.eq_zero_or_pos l.length with h0 | hl
  · intro n; unfold cyc; rw [List.length_eq_zero_iff.mp h0]; rfl
  have at_ : ∀ n : Int, cyc l n = l.getD (n % (d : Int)).toNat false := by
    intro n
    have k0 := Int.emod_nonneg n (by omega : (l.length : Int) ≠ 0)
    have k1 := Int.emod_lt_of_pos n (by omega : (0 : Int) < (l.length : Int))
    unfold cyc
    rw [h _ (by omega)]
    congr 1
    have e : (l.length : Int) = (d : Int) * ((l.length / d : Nat) : Int) := by
      have := Nat.mod_add_div l.length d
      rw [hm, Nat.zero_add] at this
      exact_mod_cast this.symm
    have q : (n % (l.length : Int)) % (d : Int) = n % (d : Int) := by
      rw [e]; exact Int.emod_emod_of_dvd n ⟨_, rfl⟩
    have : ((n % (l.length : Int)).toNat % d : Nat) = ((n % (l.length : Int)) % (d : Int)).toNat := by
      have q2 : (((n % (l.length : Int)).toNat : Nat) : Int) = n % (l.length : Int) := by omega
      have : (((n % (l.length : Int)).toNat % d : Nat) : Int) = (n % (l.length : Int)) % (d : Int) := by rw [Int.natCast_emod, q2]
      omega
    rw [this, q]
  intro n
  rw [at_, at_, Int.add_emod_right]
theorem of_per {l : List Bool} {d : Nat} (hd : 0 < d) (h : Per (cyc l) d) (hdl : d ≤ l.length) : ∀ k, k < l.length → l.getD k false = l.getD (k % d) false := by
  intro k hk
  have hlt := Nat.mod_lt k hd
  rw [← cyc_lt hk, ← cyc_lt (show k % d < l.length by omega)]
  have := h.mod (k : Int)
  rw [← this]; push_cast; rfl
/-- the same by shifts: what stands d further is alike -/
theorem shift_of {l : List Bool} {d : Nat} (hd : 0 < d) (h : ∀ k, k + d < l.length → l.getD (k + d) false = l.getD k false) : ∀ k, k < l.length → l.getD k false = l.getD (k % d) false := by
  intro k
  induction k using Nat.strongRecOn with
  | ind k ih =>
    intro hk
    rcases Nat.lt_or_ge k d with q | q
    · rw [Nat.mod_eq_of_lt q]
    · have e : k = (k - d) + d := by omega
      have := h (k - d) (by omega)
      rw [← e] at this
      rw [this, ih (k - d) (by omega) (by omega), e, Nat.add_mod_right]
      congr 2; omega
/-! ### a telling -/
structure Tl where
  lo : Int
  cs : List Bool
  us : List Bool
  ds : List Bool
def Tl.m (T : Tl) : Nat := T.us.length
def Tl.hi (T : Tl) : Int := T.lo + T.cs.length - 1
def Tl.U (T : Tl) : Int → Bool := cyc T.us
def Tl.D (T : Tl) : Int → Bool := cyc T.ds
def Tl.has (T : Tl) (n : Int) : Bool := if n < T.lo then T.D n else if T.hi < n then T.U n else T.cs.getD (n - T.lo).toNat false
structure Tl.Ok (T : Tl) : Prop where
  len : T.ds.length = T.us.length
  pos : 0 < T.us.length
theorem Tl.Ok.pu {T : Tl} (h : T.Ok) : Per T.U T.m := cyc_per
theorem Tl.Ok.pd {T : Tl} (h : T.Ok) : Per T.D T.m := by
  have := cyc_per (l := T.ds)
  rw [h.len] at this
  exact this
structure IsForm (h U D : Int → Bool) (lo hi : Int) (d : Nat) : Prop where
  least : Least U D d
  ends : ((∀ n, h n = U n) ∧ (∀ n, h n = D n) ∧ lo = 0 ∧ hi = -1) ∨
    (h hi ≠ U hi ∧ (∀ n, hi < n → h n = U n) ∧ lo ≤ hi + 1 ∧ (∀ n, n < lo → h n = D n) ∧ (lo = hi + 1 ∨ h lo ≠ D lo))
theorem IsForm.unique {h U D : Int → Bool} {lo hi lo' hi' : Int} {d d' : Nat} (a : IsForm h U D lo hi d) (b : IsForm h U D lo' hi' d') : lo = lo' ∧ hi = hi' ∧ d = d' := by
  refine ⟨?_, ?_, a.least.unique b.least⟩ <;> rcases a.ends with ⟨a1, a2, a3, a4⟩ | ⟨a1, a2, a3, a4, a5⟩ <;> rcases b.ends with ⟨b1, b2, b3, b4⟩ | ⟨b1, b2, b3, b4, b5⟩
  · omega
  · exact absurd (a1 _) b1
  · exact absurd (b1 _) a1
  · have e : hi = hi' := by
      rcases Int.lt_trichotomy hi hi' with q | q | q
      · exact absurd (a2 _ q) b1
      · exact q
      · exact absurd (b2 _ q) a1
    subst e
    rcases Int.lt_trichotomy lo lo' with q | q | q
    · rcases a5 with a5 | a5
      · omega
      · exact absurd (b4 _ q) a5
    · exact q
    · rcases b5 with b5 | b5
      · omega
      · exact absurd (a4 _ q) b5
  · omega
  · exact absurd (a1 _) b1
  · exact absurd (b1 _) a1
  · rcases Int.lt_trichotomy hi hi' with q | q | q
    · exact absurd (a2 _ q) b1
    · exact q
    · exact absurd (b2 _ q) a1
theorem IsForm.above {h U D : Int → Bool} {lo hi : Int} {d : Nat} (a : IsForm h U D lo hi d) {n : Int} (hn : hi < n) : h n = U n := by
  rcases a.ends with e | e
  · exact e.1 n
  · exact e.2.1 n hn
theorem IsForm.below {h U D : Int → Bool} {lo hi : Int} {d : Nat} (a : IsForm h U D lo hi d) {n : Int} (hn : n < lo) : h n = D n := by
  rcases a.ends with e | e
  · exact e.2.1 n
  · exact e.2.2.2.1 n hn
theorem IsForm.size {h U D : Int → Bool} {lo hi : Int} {d : Nat} (a : IsForm h U D lo hi d) : lo ≤ hi + 1 := by
  rcases a.ends with e | e
  · omega
  · exact e.2.2.1
/-! ### what holds of a telling beyond its window -/
theorem Tl.above {T : Tl} {n : Int} (h : T.hi < n) : T.has n = T.U n := by
  unfold Tl.has Tl.hi at *
  rw [if_neg (by omega), if_pos (by omega)]
theorem Tl.below {T : Tl} {n : Int} (h : n < T.lo) : T.has n = T.D n := by
  unfold Tl.has
  rw [if_pos h]
theorem Tl.core {T : Tl} {n : Int} (h : T.lo ≤ n) (h2 : n ≤ T.hi) : T.has n = T.cs.getD (n - T.lo).toNat false := by
  unfold Tl.has; rw [if_neg (by omega), if_neg (by omega)]
/-- a function that is alike on m numbers in a row below is alike below -/
theorem Tl.all_above {T : Tl} (ok : T.Ok) {a : Int} (ha : a ≤ T.lo) (h : ∀ n, a - T.m ≤ n → n < a → T.has n = T.U n) : ∀ n, n < a → T.has n = T.U n := by
  intro n hn
  have hm : (0 : Int) < (T.m : Int) := by have := ok.pos; unfold Tl.m; omega
  rw [Tl.below (show n < T.lo by omega)]
  have k0 := Int.emod_nonneg (n - (a - T.m)) (by omega : (T.m : Int) ≠ 0)
  have k1 := Int.emod_lt_of_pos (n - (a - T.m)) hm
  have q := h ((a - T.m) + (n - (a - T.m)) % (T.m : Int)) (by omega) (by omega)
  rw [Tl.below (by omega)] at q
  have cg : ((a - T.m) + (n - (a - T.m)) % (T.m : Int)) % (T.m : Int) = n % (T.m : Int) := by
    rw [Int.add_emod_emod]; congr 1; omega
  rw [ok.pd.cong cg, ok.pu.cong cg] at q
  exact q
end My
set_option linter.all false
namespace My
/-- n irow in a row from lo -/
def irow (lo : Int) (n : Nat) : List Int := (List.range n).map fun k => lo + (k : Nat)
theorem irow_succ (lo : Int) (n : Nat) : irow lo (n + 1) = irow lo n ++ [lo + (n : Nat)] := by
  unfold irow
  rw [List.range_succ, List.map_append]
  rfl
theorem mem_irow {lo x : Int} {n : Nat} : x ∈ irow lo n ↔ lo ≤ x ∧ x < lo + n := by
  unfold irow
  rw [List.mem_map]
  constructor
  · rintro ⟨k, hk, rfl⟩
    have := List.mem_range.mp hk
    omega
  · intro h
    exact ⟨(x - lo).toNat, List.mem_range.mpr (by omega), by omega⟩
def fil (P : Int → Bool) (lo : Int) (n : Nat) : List Int := (irow lo n).filter P
theorem fil_zero (P : Int → Bool) (lo : Int) : fil P lo 0 = [] := rfl
theorem fil_succ (P : Int → Bool) (lo : Int) (n : Nat) : fil P lo (n + 1) = fil P lo n ++ (if P (lo + (n : Nat)) = true then [lo + (n : Nat)] else []) := by
  unfold fil
  rw [irow_succ, List.filter_append]
  congr 1
  by_cases h : P (lo + (n : Nat)) = true
  · rw [if_pos h, List.filter_cons_of_pos h]; rfl
  · rw [if_neg h, List.filter_cons_of_neg h]; rfl
theorem fil_pos {P : Int → Bool} {lo : Int} {n : Nat} (h : P (lo + (n : Nat)) = true) : fil P lo (n + 1) = fil P lo n ++ [lo + (n : Nat)] := by
  rw [fil_succ, if_pos h]
theorem fil_neg {P : Int → Bool} {lo : Int} {n : Nat} (h : ¬ P (lo + (n : Nat)) = true) : fil P lo (n + 1) = fil P lo n := by
  rw [fil_succ, if_neg h, List.append_nil]
theorem mem_fil {P : Int → Bool} {lo x : Int} {n : Nat} : x ∈ fil P lo n ↔ (lo ≤ x ∧ x < lo + n) ∧ P x = true := by
  unfold fil
  rw [List.mem_filter, mem_irow]
theorem fil_len (P : Int → Bool) (lo : Int) (n : Nat) : (fil P lo n).length ≤ n := by
  unfold fil
  refine Nat.le_trans (List.length_filter_le _ _) ?_
  unfold irow
  simp
theorem fil_cong {P Q : Int → Bool} {lo : Int} {n : Nat} (h : ∀ x, lo ≤ x → x < lo + n → P x = Q x) : fil P lo n = fil Q lo n := by
  unfold fil
  refine List.filter_congr fun x hx => ?_
  have := mem_irow.mp hx
  exact h x this.1 this.2
theorem irow_asc (lo : Int) : ∀ n, (irow lo n).Pairwise (· < ·)
  | 0 => List.Pairwise.nil
  | n + 1 => by
    rw [irow_succ, List.pairwise_append]
    refine ⟨irow_asc lo n, List.pairwise_singleton _ _, fun a ha b hb => ?_⟩
    have h1 := mem_irow.mp ha
    rw [List.mem_singleton.mp hb]
    omega
theorem fil_asc (P : Int → Bool) (lo : Int) (n : Nat) : (fil P lo n).Pairwise (· < ·) := (irow_asc lo n).filter _
theorem fil_nodup (P : Int → Bool) (lo : Int) (n : Nat) : (fil P lo n).Nodup := (fil_asc P lo n).imp fun h => Int.ne_of_lt h
/-- the first and the last that P takes -/
theorem fil_first {P : Int → Bool} {lo : Int} {n : Nat} (hx : ∃ x, lo ≤ x ∧ x < lo + n ∧ P x = true) : ∃ v, (fil P lo n)[0]? = some v ∧ lo ≤ v ∧ v < lo + n ∧ P v = true ∧ ∀ x, lo ≤ x → x < v → P x = false := by
  obtain ⟨x, h1, h2, h3⟩ := hx
  have hm := mem_fil.mpr ⟨⟨h1, h2⟩, h3⟩
  have asc := fil_asc P lo n
  cases e : fil P lo n with
  | nil => rw [e] at hm; cases hm
  | cons v r =>
    rw [e] at asc
    have hv : v ∈ fil P lo n := by rw [e]; exact List.mem_cons_self
    have hv := mem_fil.mp hv
    refine ⟨v, rfl, hv.1.1, hv.1.2, hv.2, fun y hy hlt => ?_⟩
    cases q : P y with
    | false => rfl
    | true =>
      have hy2 : y ∈ fil P lo n := mem_fil.mpr ⟨⟨hy, by omega⟩, q⟩
      rw [e] at hy2
      rcases List.mem_cons.mp hy2 with z | z
      · omega
      · have := (List.pairwise_cons.mp asc).1 y z
        omega
theorem fil_last {P : Int → Bool} {lo : Int} {n : Nat} (hx : fil P lo n ≠ []) : ∃ r v, fil P lo n = r ++ [v] ∧ lo ≤ v ∧ v < lo + n ∧ P v = true ∧ ∀ x, v < x → x < lo + n → P x = false := by
  have asc := fil_asc P lo n
  refine ⟨(fil P lo n).dropLast, (fil P lo n).getLast hx, (List.dropLast_concat_getLast hx).symm, ?_⟩
  have hv := mem_fil.mp (List.getLast_mem hx)
  refine ⟨hv.1.1, hv.1.2, hv.2, fun y hlt hy => ?_⟩
  cases q : P y with
  | false => rfl
  | true =>
    have hy2 : y ∈ fil P lo n := mem_fil.mpr ⟨⟨by omega, hy⟩, q⟩
    rw [← List.dropLast_concat_getLast hx] at hy2 asc
    rcases List.mem_append.mp hy2 with z | z
    · have := (List.pairwise_append.mp asc).2.2 y z _ (List.mem_singleton.mpr rfl)
      omega
    · have := List.mem_singleton.mp z
      omega
theorem fil_nil {P : Int → Bool} {lo : Int} {n : Nat} (h : fil P lo n = []) : ∀ x, lo ≤ x → x < lo + n → P x = false := by
  intro x h1 h2
  cases q : P x with
  | false => rfl
  | true =>
    have := mem_fil.mpr ⟨⟨h1, h2⟩, q⟩
    rw [h] at this
    cases this
/-- the places of the flags -/
def res (bs : List Bool) : List Int := fil (fun k => bs.getD k.toNat false) 0 bs.length
theorem mem_res {bs : List Bool} {x : Int} : x ∈ res bs ↔ (0 ≤ x ∧ x < bs.length) ∧ bs.getD x.toNat false = true := by
  unfold res
  rw [mem_fil, Int.zero_add]
theorem rep_flat {α : Type} (x : α) : ∀ n, (List.replicate n [x]).flatten = List.replicate n x
  | 0 => rfl
  | n + 1 => by
    rw [List.replicate_succ, List.flatten_cons, rep_flat x n, List.replicate_succ]
    rfl
end My
set_option linter.all false
namespace My
theorem per_shift {l : List Bool} {d : Nat} (h : Per (cyc l) d) : ∀ k, k + d < l.length → l.getD (k + d) false = l.getD k false := by
  intro k hk
  rw [← cyc_lt hk, ← cyc_lt (show k < l.length by omega)]
  have := h (k : Int)
  rw [← this]; congr 1
theorem cut_shift {l : List Bool} {d : Nat} (hd : d ≤ l.length) : (l.drop d = l.take (l.length - d)) ↔ ∀ k, k + d < l.length → l.getD (k + d) false = l.getD k false := by
  constructor
  · intro h k hk
    have h1 : (l.drop d)[k]? = l[k + d]? := by rw [List.getElem?_drop, Nat.add_comm]
    have h2 : (l.take (l.length - d))[k]? = l[k]? := by rw [List.getElem?_take]; rw [if_pos (by omega)]
    rw [List.getD_eq_getElem?_getD, List.getD_eq_getElem?_getD, ← h1, ← h2, h]
  · intro h
    refine List.ext_getElem (by rw [List.length_drop, List.length_take]; omega) fun k h1 h2 => ?_
    rw [List.length_drop] at h1
    have := h k (by omega)
    rw [List.getElem_drop, List.getElem_take]
    rw [List.getD_eq_getElem?_getD, List.getD_eq_getElem?_getD, List.getElem?_eq_getElem (by omega), List.getElem?_eq_getElem (by omega)] at this
    simpa [Nat.add_comm] using this
theorem shift_per {l : List Bool} {d : Nat} (hd : 0 < d) (hm : l.length % d = 0) (h : ∀ k, k + d < l.length → l.getD (k + d) false = l.getD k false) : Per (cyc l) d := per_of hd hm (shift_of hd h)
theorem cyc_take {l : List Bool} {d : Nat} (hd : 0 < d) (hl : d ≤ l.length) (h : Per (cyc l) d) : cyc (l.take d) = cyc l := by
  funext n
  have hlen : (l.take d).length = d := by rw [List.length_take]; omega
  have k0 := Int.emod_nonneg n (by omega : (d : Int) ≠ 0)
  have k1 := Int.emod_lt_of_pos n (by omega : (0 : Int) < (d : Int))
  rw [← h.mod n]
  conv => lhs; unfold cyc
  rw [hlen]
  have e : n % (d : Int) = (((n % (d : Int)).toNat : Nat) : Int) := by omega
  have : cyc l (n % (d : Int)) = l.getD (n % (d : Int)).toNat false := by
    have q := cyc_lt (l := l) (k := (n % (d : Int)).toNat) (by omega)
    rw [← e] at q
    exact q
  rw [this, List.getD_eq_getElem?_getD, List.getD_eq_getElem?_getD, List.getElem?_take, if_pos (by omega)]
/-- the least one among those that divide -/
theorem least_by {U D : Int → Bool} {m d : Nat} (hm : 0 < m) (pu : Per U m) (pd : Per D m) (hd : 0 < d) (du : Per U d) (dd : Per D d) (h : ∀ e, 0 < e → e < d → m % e = 0 → Per U e → Per D e → False) : Least U D d := by
  obtain ⟨p, hp⟩ := least_ex m hm pu pd
  refine ⟨hd, du, dd, fun e he eu ed => ?_⟩
  rcases Nat.lt_or_ge p d with q | q
  · exact (h p hp.pos q (hp.dvd hm pu pd) hp.pu hp.pd).elim
  · exact Nat.le_trans q (hp.le e he eu ed)
/-- where the sides part -/
theorem Tl.parts {T : Tl} (ok : T.Ok) (h : ∃ n, T.has n ≠ T.U n) (hc : ∀ n, T.lo ≤ n → n ≤ T.hi → T.has n = T.D n) : ∃ w, T.hi < w ∧ w ≤ T.hi + T.m ∧ T.U w ≠ T.D w := by
  refine Classical.byContradiction fun no => ?_
  have all : ∀ n, T.U n = T.D n := by
    intro n
    have hm : (0 : Int) < (T.m : Int) := by have := ok.pos; unfold Tl.m; omega
    have k0 := Int.emod_nonneg (n - (T.hi + 1)) (by omega : (T.m : Int) ≠ 0)
    have k1 := Int.emod_lt_of_pos (n - (T.hi + 1)) hm
    have cg : ((T.hi + 1) + (n - (T.hi + 1)) % (T.m : Int)) % (T.m : Int) = n % (T.m : Int) := by
      rw [Int.add_emod_emod]; congr 1; omega
    have q : T.U ((T.hi + 1) + (n - (T.hi + 1)) % (T.m : Int)) = T.D ((T.hi + 1) + (n - (T.hi + 1)) % (T.m : Int)) := by
      refine Classical.byContradiction fun z => no ⟨_, ?_, ?_, z⟩ <;> omega
    rw [ok.pu.cong cg, ok.pd.cong cg] at q
    exact q
  obtain ⟨n, hn⟩ := h
  refine hn ?_
  rcases Int.lt_or_le n T.lo with q | q
  · rw [Tl.below q, all]
  · rcases Int.lt_or_le T.hi n with q2 | q2
    · exact Tl.above q2
    · rw [hc n q q2, all]
/-- the form from its two ends -/
theorem form_none {T : Tl} (ok : T.Ok) {d : Nat} (hd : Least T.U T.D d) (h : ∀ n, T.has n = T.U n) : IsForm T.has T.U T.D 0 (-1) d := by
  refine ⟨hd, .inl ⟨h, fun n => ?_, rfl, rfl⟩⟩
  -- below lo: has = D, and has = U: so U = D there, so everywhere
  have hm : (0 : Int) < (T.m : Int) := by have := ok.pos; unfold Tl.m; omega
  have k0 := Int.emod_nonneg (n - T.lo) (by omega : (T.m : Int) ≠ 0)
  have k1 := Int.emod_lt_of_pos (n - T.lo) hm
  have cg : ((T.lo - T.m) + (n - T.lo) % (T.m : Int)) % (T.m : Int) = n % (T.m : Int) := by
    rw [Int.add_emod_emod]
    have : T.lo - (T.m : Int) + (n - T.lo) = n - (T.m : Int) := by omega
    rw [this, Int.sub_emod_right]
  have q := h ((T.lo - T.m) + (n - T.lo) % (T.m : Int))
  rw [Tl.below (by omega)] at q
  rw [ok.pd.cong cg, ok.pu.cong cg] at q
  rw [h n, q]
theorem form_some {T : Tl} {d : Nat} {v b : Int} (hd : Least T.U T.D d) (h1 : T.has v ≠ T.U v) (h2 : ∀ n, v < n → T.has n = T.U n) (h3 : T.has b ≠ T.D b) (h4 : ∀ n, n < b → T.has n = T.D n) :
    IsForm T.has T.U T.D (if v + 1 < b then v + 1 else b) v d := by
  refine ⟨hd, .inr ⟨h1, h2, by split <;> omega, fun n hn => h4 n (by split at hn <;> omega), ?_⟩⟩
  split
  · exact .inl rfl
  · exact .inr h3
end My
set_option linter.all false
namespace My
def rep (k : Nat) (l : List Bool) : List Bool := (List.replicate k l).flatten
theorem rep_len (l : List Bool) : ∀ k, (rep k l).length = k * l.length
  | 0 => by simp [rep]
  | k + 1 => by
    unfold rep
    rw [List.replicate_succ, List.flatten_cons, List.length_append]
    have := rep_len l k
    unfold rep at this
    rw [this, Nat.succ_mul]; omega
theorem rep_get (l : List Bool) (hl : 0 < l.length) : ∀ (k i : Nat), i < k * l.length → (rep k l).getD i false = l.getD (i % l.length) false
  | 0, i, h => by omega
  | k + 1, i, h => by
    have e : rep (k + 1) l = l ++ rep k l := by unfold rep; rw [List.replicate_succ, List.flatten_cons]
    rw [e, List.getD_eq_getElem?_getD]
    rcases Nat.lt_or_ge i l.length with q | q
    · rw [List.getElem?_append_left q, Nat.mod_eq_of_lt q, List.getD_eq_getElem?_getD]
    · rw [List.getElem?_append_right q, ← List.getD_eq_getElem?_getD, rep_get l hl k (i - l.length) (by rw [Nat.succ_mul] at h; omega)]
      congr 1
      conv => rhs; rw [show i = (i - l.length) + l.length by omega, Nat.add_mod_right]
theorem cyc_rep {l : List Bool} {k : Nat} (hk : 0 < k) (hl : 0 < l.length) : cyc (rep k l) = cyc l := by
  funext n
  have hkl : 0 < k * l.length := Nat.mul_pos hk hl
  have k0 := Int.emod_nonneg n (by omega : ((k * l.length : Nat) : Int) ≠ 0)
  have k1 := Int.emod_lt_of_pos n (by omega : (0 : Int) < ((k * l.length : Nat) : Int))
  unfold cyc
  rw [rep_len, rep_get l hl k _ (by omega)]
  congr 1
  have q : (n % ((k * l.length : Nat) : Int)) % (l.length : Int) = n % (l.length : Int) := by
    rw [Int.natCast_mul]
    exact Int.emod_emod_of_dvd n ⟨(k : Int), by rw [Int.mul_comm]⟩
  rw [← q]
  have e : n % ((k * l.length : Nat) : Int) = (((n % ((k * l.length : Nat) : Int)).toNat : Nat) : Int) := by omega
  conv => rhs; rw [e, ← Int.natCast_emod, Int.toNat_natCast]
/-- the same told again with a greater modulus and a wider core -/
def Tl.wide (T : Tl) (k l r : Nat) : Tl := ⟨T.lo - l, (List.range (T.cs.length + l + r)).map fun i => T.has (T.lo - l + (i : Nat)), rep k T.us, rep k T.ds⟩
theorem wide_U {T : Tl} {k l r : Nat} (ok : T.Ok) (hk : 0 < k) : (T.wide k l r).U = T.U := cyc_rep hk ok.pos
theorem wide_D {T : Tl} {k l r : Nat} (ok : T.Ok) (hk : 0 < k) : (T.wide k l r).D = T.D := cyc_rep hk (by rw [ok.len]; exact ok.pos)
theorem wide_ok {T : Tl} {k l r : Nat} (ok : T.Ok) (hk : 0 < k) : (T.wide k l r).Ok := ⟨by show (rep k T.ds).length = (rep k T.us).length; rw [rep_len, rep_len, ok.len], by show 0 < (rep k T.us).length; rw [rep_len]; exact Nat.mul_pos hk ok.pos⟩
theorem wide_hi {T : Tl} {k l r : Nat} : (T.wide k l r).hi = T.hi + r := by
  show T.lo - l + (((List.range (T.cs.length + l + r)).map fun i => T.has (T.lo - l + (i : Nat))).length : Int) - 1 = T.lo + T.cs.length - 1 + r
  rw [List.length_map, List.length_range]; push_cast
  omega
theorem wide_has {T : Tl} {k l r : Nat} (ok : T.Ok) (hk : 0 < k) : (T.wide k l r).has = T.has := by
  funext n
  have hlo : (T.wide k l r).lo = T.lo - l := rfl
  have hhi := wide_hi (T := T) (k := k) (l := l) (r := r)
  have hh : T.hi = T.lo + T.cs.length - 1 := rfl
  rcases Int.lt_or_le n (T.lo - l) with q | q
  · rw [Tl.below (by rw [hlo]; exact q), wide_D ok hk, Tl.below (by omega)]
  · rcases Int.lt_or_le (T.hi + r) n with q2 | q2
    · rw [Tl.above (by rw [hhi]; exact q2), wide_U ok hk, Tl.above (by omega)]
    · rw [Tl.core (by rw [hlo]; exact q) (by rw [hhi]; exact q2)]
      show ((List.range (T.cs.length + l + r)).map fun i => T.has (T.lo - l + (i : Nat))).getD (n - (T.lo - l)).toNat false = _
      have : (n - (T.lo - l)).toNat < T.cs.length + l + r := by omega
      rw [List.getD_eq_getElem?_getD, List.getElem?_map, List.getElem?_range this]
      show T.has (T.lo - l + ((n - (T.lo - l)).toNat : Nat)) = T.has n
      congr 1
      omega
/-! ### the law's own form -/
def okD (T : Tl) (d : Int) : Bool := decide ((T.us.length : Int) % d = 0) && ((List.range T.us.length).map fun k => decide (T.us.getD k false = cycD T.us k d) && decide (T.ds.getD k false = cycD T.ds k d)).all id
  where cycD (l : List Bool) (k : Nat) (d : Int) : Bool := l.getD ((k : Int) % d).toNat false
theorem all_ids {f : Nat → Bool} {m : Nat} : ((List.range m).map f).all id = true ↔ ∀ k, k < m → f k = true := by
  rw [List.all_eq_true]
  constructor
  · intro h k hk
    exact h _ (List.mem_map.mpr ⟨k, List.mem_range.mpr hk, rfl⟩)
  · rintro h x hx
    obtain ⟨k, hk, rfl⟩ := List.mem_map.mp hx
    exact h k (List.mem_range.mp hk)
theorem okD_iff {T : Tl} (ok : T.Ok) {d : Nat} (hd : 0 < d) (hm : d ≤ T.us.length) : okD T d = true ↔ (T.us.length % d = 0 ∧ Per T.U d ∧ Per T.D d) := by
  unfold okD
  rw [Bool.and_eq_true, all_ids, decide_eq_true_iff]
  have e : ∀ (l : List Bool) (k : Nat), okD.cycD l k (d : Int) = l.getD (k % d) false := fun l k => by
    unfold okD.cycD
    congr 1
  constructor
  · rintro ⟨h1, h2⟩
    have h1' : T.us.length % d = 0 := by exact_mod_cast h1
    refine ⟨h1', per_of hd h1' fun k hk => ?_, per_of hd (by rw [ok.len]; exact h1') fun k hk => ?_⟩
    · have := Bool.and_eq_true_iff.mp (h2 k hk)
      rw [← e]
      exact of_decide_eq_true this.1
    · rw [ok.len] at hk
      have := Bool.and_eq_true_iff.mp (h2 k hk)
      rw [← e]
      exact of_decide_eq_true this.2
  · rintro ⟨h1, h2, h3⟩
    refine ⟨by exact_mod_cast h1, fun k hk => Bool.and_eq_true_iff.mpr ⟨decide_eq_true ?_, decide_eq_true ?_⟩⟩
    · rw [e]
      exact of_per hd h2 hm k hk
    · rw [e]
      exact of_per hd h3 (by rw [ok.len]; exact hm) k (by rw [ok.len]; exact hk)
theorem size_first {T : Tl} (ok : T.Ok) : ∃ d : Nat, (fil (okD T) 1 T.us.length)[0]? = some (d : Int) ∧ d ≤ T.us.length ∧ Least T.U T.D d := by
  have hm := ok.pos
  have self : okD T (T.us.length : Nat) = true := (okD_iff ok hm (Nat.le_refl _)).mpr ⟨Nat.mod_self _, ok.pu, ok.pd⟩
  obtain ⟨v, h0, h1, h2, h3, h4⟩ := fil_first (P := okD T) (lo := 1) (n := T.us.length) ⟨(T.us.length : Int), by omega, by omega, self⟩
  obtain ⟨d, rfl⟩ := Int.eq_ofNat_of_zero_le (by omega : 0 ≤ v)
  have h3' := (okD_iff ok (by omega) (by omega)).mp h3
  refine ⟨d, h0, by omega, least_by hm ok.pu ok.pd (by omega) h3'.2.1 h3'.2.2 fun e he hlt hd pu pd => ?_⟩
  have := h4 (e : Int) (by omega) (by omega)
  rw [(okD_iff ok he (by omega)).mpr ⟨hd, pu, pd⟩] at this
  cases this
/-- the window shows all -/
theorem tops_nil {T : Tl} (ok : T.Ok) (h : fil (fun n => !decide (T.has n = T.U n)) (T.lo - T.us.length) (T.cs.length + T.us.length + T.us.length) = []) : ∀ n, T.has n = T.U n := by
  have hm : T.m = T.us.length := rfl
  have hh : T.hi = T.lo + T.cs.length - 1 := rfl
  have w : ∀ n, T.lo - T.us.length ≤ n → n ≤ T.hi + T.us.length → T.has n = T.U n := fun n h1 h2 => by
    have := fil_nil h n h1 (by push_cast; omega)
    simpa using this
  intro n
  rcases Int.lt_or_le n T.lo with q | q
  · exact Tl.all_above ok (Int.le_refl _) (fun n h1 h2 => w n (by omega) (by omega)) n q
  · rcases Int.lt_or_le T.hi n with q2 | q2
    · exact Tl.above q2
    · exact w n (by omega) (by omega)
theorem tops_last {T : Tl} (ok : T.Ok) {r : List Int} {v : Int} (h : fil (fun n => !decide (T.has n = T.U n)) (T.lo - T.us.length) (T.cs.length + T.us.length + T.us.length) = r ++ [v]) : T.has v ≠ T.U v ∧ (∀ n, v < n → T.has n = T.U n) ∧ T.lo - T.us.length ≤ v ∧ v ≤ T.hi := by
  have hh : T.hi = T.lo + T.cs.length - 1 := rfl
  obtain ⟨r', v', h1, h2, h3, h4, h5⟩ := fil_last (P := fun n => !decide (T.has n = T.U n)) (lo := T.lo - T.us.length) (n := T.cs.length + T.us.length + T.us.length) (by rw [h]; simp)
  rw [h] at h1
  have e : v = v' := by
    have := congrArg List.getLast? h1
    simpa using this
  subst e
  have h4' : T.has v ≠ T.U v := by simpa using h4
  have hv : v ≤ T.hi := by
    rcases Int.lt_or_le T.hi v with q | q
    · exact absurd (Tl.above q) h4'
    · exact q
  refine ⟨h4', fun n hn => ?_, h2, hv⟩
  rcases Int.lt_or_le T.hi n with q | q
  · exact Tl.above q
  · have := h5 n hn (by push_cast; omega)
    simpa using this
theorem bottoms_first {T : Tl} (ok : T.Ok) (ex : ∃ n, T.has n ≠ T.U n) : ∃ b, (fil (fun n => !decide (T.has n = T.D n)) (T.lo - T.us.length) (T.cs.length + T.us.length + T.us.length))[0]? = some b ∧ T.has b ≠ T.D b ∧ (∀ n, n < b → T.has n = T.D n) ∧ T.lo ≤ b := by
  have hh : T.hi = T.lo + T.cs.length - 1 := rfl
  have hm : T.m = T.us.length := rfl
  have hx : ∃ x, T.lo - T.us.length ≤ x ∧ x < T.lo - T.us.length + ((T.cs.length + T.us.length + T.us.length : Nat) : Int) ∧ (!decide (T.has x = T.D x)) = true := by
    refine Classical.byContradiction fun no => ?_
    have all : ∀ n, T.lo ≤ n → n ≤ T.hi + T.us.length → T.has n = T.D n := fun n h1 h2 => by
      refine Classical.byContradiction fun z => no ⟨n, by omega, by push_cast; omega, by simpa using z⟩
    obtain ⟨w, w1, w2, w3⟩ := Tl.parts ok ex fun n h1 h2 => all n h1 (by omega)
    refine w3 ?_
    rw [← Tl.above w1]
    exact all w (by omega) (by omega)
  obtain ⟨b, h0, h1, h2, h3, h4⟩ := fil_first hx
  have h3' : T.has b ≠ T.D b := by simpa using h3
  have hb : T.lo ≤ b := by
    rcases Int.lt_or_le b T.lo with q | q
    · exact absurd (Tl.below q) h3'
    · exact q
  refine ⟨b, h0, h3', fun n hn => ?_, hb⟩
  rcases Int.lt_or_le n T.lo with q | q
  · exact Tl.below q
  · have := h4 n (by omega) hn
    simpa using this
end My
set_option Elab.async false
set_option linter.all false
set_option maxRecDepth 100000
set_option maxHeartbeats 8000000
/-! common words of the proofs -/
namespace My
open PySem PySem.Spec PyProof.Rows L2
theorem smallB {n : Nat} (h : n ≤ 60000) : n < sizeLine := by rw [sizeLine_eq]; omega
/-- the def at the module's name x keeps its promise -/
def Keeps (CX : CXT) (P : Program) (w : World) (K : PySem.W.Frag) (mg : Str → Option Value) (base : Heap) (x : Str) (k : Nat) (ps : List Str) (sp : Sp) : Prop :=
  ∃ fd, FnOk P w K mg base CX k (He.ga K x) fd ps sp ∧ Binds K fd ps [] ∧ PySem.W.keepIn K (.ref (He.ga K x)) = true ∧ mg x = some (.ref (He.ga K x))
theorem pe_k {X : Cx} {CX : CXT} {k : Nat} {ps : List Str} {sp : Sp} {E : XK} {x : Str} {p pos : Pos} {e : Expr} {es : List Expr} {t : TA} (h : Keeps CX X.prog X.w X.K X.mg X.base x k ps sp) (hr : Room k X.A) (hg : Gl X x) (hx : Passes CX X E)
    (ha : PA X (e :: es) t) (dbg : (x == ("__debug__" : Str)) = false := by decide) (hst : starEach (e :: es) X.env = (false, eval e X.env) :: starEach es X.env := by rfl) (hpl : (backTo pos (starEach es X.env)).any (·.1) = false := by rfl) :
    PE X (.Call (.Name x p) (e :: es) [] pos) (tCall sp [] E t) := by
  obtain ⟨fd, F, b, kp, m⟩ := h
  exact pe_call F hr hg m kp b .nil hx ha dbg hst hpl
/-- a def of the top, as it stands -/
def At (K : PySem.W.Frag) (mg : Str → Option Value) (x : Str) (st : Stmt) : Prop := mg x = some (.ref (He.ga K x)) ∧ ∃ fd, FunD K x x (defArgs st) (defBody st) (defScope st) [] [] (He.ga K x) fd
abbrev bindsBy (st : Stmt) (x : Str) (ps : List Str) : Prop := ∀ (kV doc pm : Value) (an : Option Addr) (cdv ct : Value) (us : List Value), us.length = ps.length → bindArgs (PySem.W.fnOf x x (defArgs st) (defBody st) (defScope st) .none kV doc pm an cdv ct) ⟨us, []⟩ = pure (ps.zip us)
section
variable {CX : CXT} {P : Program} {w : World} {K : PySem.W.Frag} {mg : Str → Option Value} {base : Heap}
theorem keeps_ofX {x : Str} {st : Stmt} {N ps : List Str} {k : Nat} {sp : Sp} (F : At K mg x st) (S : FnScope N ps (defScope st)) (hb : bindsBy st x ps) (len : ∀ vs H Q E, sp vs H Q E → vs.length = ps.length)
    (hbody : ∀ (f : Addr) (cdv : Value) (A : Around) (outer : List Env) (s : Shared) (H : Hp) (vs : List V) (Q : VK) (E : XK), Room k (A.deeper (envOfC x (defScope st) s.heap.objs.size f cdv)) → sp vs H Q E →
      ∃ t, PSs (cxOf CX P w K mg base N x (defScope st) f cdv A outer s H E) (defBody st) t ∧ t { nx := fun _ H' => Q .non H', rt := Q } (start N vs) H) : Keeps CX P w K mg base x (k + 1) ps sp := by
  obtain ⟨m, fd, F⟩ := F
  exact ⟨fd, F.ok S len (hbody _), F.bindsN hb, F.kp, m⟩
theorem keeps_of {x : Str} {st : Stmt} {N ps : List Str} {k : Nat} {sp : Sp} (F : At K mg x st) (S : FnScope N ps (defScope st)) (hb : bindsBy st x ps) (len : ∀ vs H Q E, sp vs H Q E → vs.length = ps.length)
    (hbody : ∀ (f : Addr) (cdv : Value) (A : Around) (outer : List Env) (s : Shared) (H : Hp) (vs : List V) (Q : VK) (E : XK), Room k (A.deeper (envOfC x (defScope st) s.heap.objs.size f cdv)) → sp vs H Q E →
      ∃ t, PSs (cxOf CX0 P w K mg base N x (defScope st) f cdv A outer s H E).nox (defBody st) t ∧ t { nx := fun _ H' => Q .non H', rt := Q } (start N vs) H) : Keeps CX0 P w K mg base x (k + 1) ps sp :=
  keeps_ofX F S hb len fun f cdv A outer s H vs Q E hr h => by
    obtain ⟨t, h1, h2⟩ := hbody f cdv A outer s H vs Q E hr h
    exact ⟨t, h1.nox, h2⟩
end
/-- all but p as it was -/
def But (p : Addr) (H H' : Hp) : Prop := ∀ b o, b ≠ p → H b = some o → H' b = some o
/-- a hand of draws stands at p, its cells at c -/
def HandC (H : Hp) (p c : Addr) : Prop := ∃ (cs : List Int) (at_ rest total : Int), H p = some (.lst [.ref c, .int at_, .int rest, .int total]) ∧ H c = some (.lst (cs.map V.int)) ∧ 0 ≤ at_
local macro_rules | `(tactic| walk_at "lv") => `(tactic| first | exact Or.inl rfl | exact Or.inr rfl)
/-! ### _law_mix -/
def spMix : Sp := fun vs H Q _ => ∃ a b : Int, vs = [.int a, .int b] ∧ ∀ r : Int, Q (.int r) H
abbrev s_mix : Stmt := top 51
abbrev N_mix : List Str := ["_law_number", "_law_turn", "_law_once", "_law_twice"]
theorem sc_mix : FnScope N_mix ["_law_number", "_law_turn"] (defScope s_mix) := ⟨rfl, rfl, rfl, by decide +kernel, rfl, by decide +kernel, by decide +kernel⟩
section
variable {P : Program} {w : World} {K : PySem.W.Frag} {mg : Str → Option Value} {base : Heap}
theorem mod_lt31 {a m : Int} (h : 0 < m) (hm : m < 2 ^ 40) : -(2 ^ 64) < a % m ∧ a % m < 2 ^ 64 := by
  have h1 := Int.emod_nonneg a (b := m) (by omega)
  have h2 := Int.emod_lt_of_pos a h
  omega
theorem kp_mix (F : At K mg "_law_mixed" s_mix) (nI : mg "int" = none) : Keeps CX0 P w K mg base "_law_mixed" 1 ["_law_number", "_law_turn"] spMix := by
  refine keeps_of F sc_mix (fun _ _ _ _ _ _ us hl => match us, hl with | [_, _], _ => rfl) (fun vs H Q E h => ?_) (fun f cdv A outer s H vs Q E hr h => ?_)
  · obtain ⟨a, b, rfl, _⟩ := h
    rfl
  · obtain ⟨a, b, rfl, k⟩ := h
    refine ⟨_, (pss_cons (ps_set (i := 2) sc_mix.nd rfl (by walk_at "lv") (pe_op op_mod (pe_callTy call_int1 (by rfl) nI boot_int (pa_cons (pe_op op_add (pe_op op_add (pe_op op_mul (pv 0) pe_int) (pe_op op_mul (pv 1) pe_int)) pe_int) pa_nil)) pe_int))
        (pss_cons (ps_set (i := 3) sc_mix.nd rfl (by walk_at "lv") (pe_op op_mod (pe_callTy call_int1 (by rfl) nI boot_int (pa_cons (pe_op op_add (pe_op op_add (pe_op op_mul (pv 2) (pv 2)) (pe_op op_mul (pv 1) pe_int)) (pe_op op_fdiv (pv 2) pe_int)) pa_nil)) pe_int))
        (pss_one (ps_ret (pe_op op_fdiv (pe_callTy call_int1 (by rfl) nI boot_int (pa_cons (pe_op op_mod (pe_callTy call_int1 (by rfl) nI boot_int (pa_cons (pe_op op_add (pe_op op_mul (pv 3) pe_int) (pe_op op_fdiv (pv 2) pe_int)) pa_nil)) pe_int) pa_nil)) pe_int))))), ?_⟩
    refine ⟨_, rfl, _, _, rfl, rfl, .inr ⟨by decide, by decide⟩, _, rfl, _, _, rfl, rfl, .inr ⟨by decide, by decide⟩, _, _, rfl, rfl, _, _, rfl, rfl, .inl ⟨_, rfl, _, _, rfl, rfl, (by show (0 : Int) < _; decide), ?_⟩⟩
    refine ⟨_, rfl, _, rfl, _, _, rfl, rfl, .inl (mod_lt31 (by decide) (by decide)), _, rfl, _, _, rfl, rfl, .inr ⟨by decide, by decide⟩, _, _, rfl, rfl, _, rfl, _, _, rfl, rfl, ⟨by decide, by decide⟩, _, _, rfl, rfl, .inl ⟨_, rfl, _, _, rfl, rfl, (by show (0 : Int) < _; decide), ?_⟩⟩
    exact ⟨_, rfl, _, _, rfl, rfl, .inr ⟨by decide, by decide⟩, _, rfl, _, _, rfl, rfl, ⟨by decide, by decide⟩, _, _, rfl, rfl, .inl ⟨_, rfl, _, _, rfl, rfl, (by show (0 : Int) < _; decide), .inl ⟨_, rfl, _, _, rfl, rfl, ⟨by decide, by decide⟩, k _⟩⟩⟩
/-! ### _law_hand -/
def spHand (K : PySem.W.Frag) : Sp := fun vs H Q _ => ∃ (a : Addr) (ns : List Int), vs = [.ref a] ∧ SqL K H a (ns.map V.int) ∧ ns.length ≤ 63 ∧ ∀ p c H', H p = none → H c = none → HandC H' p c → Same H H' → Q (.ref p) H'
abbrev s_hand : Stmt := top 50
abbrev N_hand : List Str := ["_law_script", "_law_total", "_law_cells", "_law_cell"]
theorem sc_hand : FnScope N_hand ["_law_script"] (defScope s_hand) := ⟨rfl, rfl, rfl, by decide +kernel, rfl, by decide +kernel, by decide +kernel⟩
theorem int_at {ns : List Int} {i : Nat} {x : V} (h : (ns.map V.int)[i]? = some x) : ∃ z, ns[i]? = some z ∧ x = .int z := by
  rw [List.getElem?_map] at h
  cases e : ns[i]? with
  | none =>
    rw [e] at h
    cases h
  | some z =>
    rw [e] at h
    exact ⟨z, rfl, (Option.some.inj h).symm⟩
theorem kp_hand (F : At K mg "_law_hand" s_hand) (nI : mg "int" = none) (nL : mg "len" = none) (nA : mg "abs" = none) : Keeps CX0 P w K mg base "_law_hand" 1 ["_law_script"] (spHand K) := by
  refine keeps_of F sc_hand (fun _ _ _ _ _ _ us hl => match us, hl with | [_], _ => rfl) (fun vs H Q E h => ?_) (fun f cdv A outer s H vs Q E hr h => ?_)
  · obtain ⟨a, ns, rfl, _⟩ := h
    rfl
  · obtain ⟨a, ns, rfl, hS, hlen, k⟩ := h
    refine ⟨_, (pss_cons (ps_set (i := 1) sc_hand.nd rfl (by walk_at "lv") (pe_op op_add pe_int (pe_callB call_len_seq (by rfl) nL boot_len (pa_cons (pv 0) pa_nil))))
        (pss_cons (ps_set (i := 2) sc_hand.nd rfl (by walk_at "lv") (pe_lst pa_nil))
        (pss_cons (ps_for PassesOwn.never rfl (pi_list (pv 0)) (pg_name (i := 3) sc_hand.nd rfl (by walk_at "lv")) (pss_cons (ps_set (i := 1) sc_hand.nd rfl (by walk_at "lv") (pe_op op_mod (pe_callTy call_int1 (by rfl) nI boot_int (pa_cons (pe_op op_add (pe_op op_mul (pv 1) pe_int) (pe_callTy call_int1 (by rfl) nI boot_int (pa_cons (pv 3) pa_nil))) pa_nil)) pe_int))
        (pss_one (ps_expr (pe_bm PySem.F.plainAttrs_list PySem.F.slot_list_append PySem.F.type_list_append mt_append (pv 2) (pa_cons (pe_callB call_abs (by rfl) nA boot_abs (pa_cons (pe_callTy call_int1 (by rfl) nI boot_int (pa_cons (pv 3) pa_nil)) pa_nil)) pa_nil))))))
        (pss_one (ps_ret (pe_lst (pa_cons (pv 2) (pa_cons pe_int (pa_cons pe_int (pa_cons (pv 1) pa_nil)))))))))), ?_⟩
    refine ⟨_, rfl, a, _, rfl, .inl hS, _, _, rfl, rfl, (by show 0 ≤ sizeLine; decide), fun c hc => ?_⟩
    have sn : ∀ {H1 H2 : Hp} {q : Addr} {o : HO}, Same H1 H2 → H2 q = none → Same H1 (upd H2 q o) := fun s hq b u e => by
      rw [upd_ne (ne_of_none (s _ _ e) hq)]
      exact s _ _ e
    have s1 := sn (o := .lst []) (Same.refl H) hc
    refine ⟨_, rfl, a, rfl, ⟨_, s1.seq hS⟩, for_it walk_list (fun i σ H2 => ∃ (t : Int) (cs : List Int) (x : Option V), σ = [some (.ref a), some (.int t), some (.ref c), x] ∧ H2 c = some (.lst (cs.map V.int)) ∧ cs.length = i ∧ Same H H2) ⟨_, [], none, rfl, upd_same, rfl, s1⟩ (fun i σ H2 _ ⟨_, _, _, _, _, _, s2⟩ => s2.seq hS) ?_ ?_⟩
    · rintro i v σ H2 H3 hi ⟨t, cs, x, rfl, hcs, hl, s2⟩ ⟨rfl, e4⟩
      obtain ⟨n, hn, rfl⟩ := int_at e4
      have hi63 : i < 63 := by
        rw [List.length_map] at hi
        omega
      refine ⟨_, rfl, _, _, rfl, rfl, .inr ⟨by decide, by decide⟩, _, rfl, .inl ⟨_, rfl, _, _, rfl, rfl, .inl ⟨_, rfl, _, _, rfl, rfl, (by show (0 : Int) < _; decide), ?_⟩⟩⟩
      refine ⟨_, rfl, .inl ⟨rfl, _, SqL.of hcs⟩, _, rfl, .inl ⟨_, rfl, _, rfl, c, _, _, rfl, rfl, hcs, smallB (by rw [List.length_map]; omega), ?_⟩⟩
      refine ⟨_, cs ++ [if n < 0 then -n else n], _, rfl, ?_, by rw [List.length_append, hl]; rfl, fun b o e => ?_⟩
      · rw [List.map_append]
        exact upd_same
      · rw [upd_ne (ne_of_none e hc)]
        exact s2 b o e
    · rintro σ H2 ⟨t, cs, x, rfl, hcs, hl, s2⟩
      refine ⟨_, rfl, _, rfl, (by show 4 ≤ sizeLine; decide), fun p hp => ?_⟩
      refine k p c _ (s2.free hp) hc ⟨cs, 0, 0, t, upd_same, ?_, Int.le_refl 0⟩ (sn s2 hp)
      rw [upd_ne (ne_of_none hcs hp)]
      exact hcs
/-! ### _law_draw -/
def spDraw : Sp := fun vs H Q _ => ∃ (p c : Addr) (m : Int), vs = [.ref p, .int m] ∧ HandC H p c ∧ (0 < m ∧ m.natAbs.log2 < 9000) ∧ ∀ (r : Int) H', 0 ≤ r → r < m → HandC H' p c → But p H H' → Q (.int r) H'
abbrev s_draw : Stmt := top 52
abbrev N_draw : List Str := ["_law_hand_here", "_law_many", "_law_cell", "_law_rest"]
theorem sc_draw : FnScope N_draw ["_law_hand_here", "_law_many"] (defScope s_draw) := ⟨rfl, rfl, rfl, by decide +kernel, rfl, by decide +kernel, by decide +kernel⟩
theorem atI_of {α : Type} {xs : List α} {i : Int} (h0 : 0 ≤ i) (h1 : i < xs.length) : ∃ v, xs[i.toNat]? = some v ∧ atI xs i = some v := by
  have e : xs[i.toNat]? = some (xs[i.toNat]'(by omega)) := List.getElem?_eq_getElem _
  have e2 : ((i.toNat : Nat) : Int) = i := by omega
  refine ⟨_, e, ?_⟩
  have q := atI_nat e
  rw [e2] at q
  exact q
theorem But.upd {p : Addr} {H H' : Hp} {o : HO} (h : But p H H') : But p H (upd H' p o) := fun b u hb e => by
  rw [upd_ne hb]
  exact h b u hb e
theorem But.refl (p : Addr) (H : Hp) : But p H H := fun _ _ _ e => e
theorem kp_draw (F : At K mg "_law_draw" s_draw) (GM : Keeps CX0 P w K mg base "_law_mixed" 1 ["_law_number", "_law_turn"] spMix) (nI : mg "int" = none) (nL : mg "len" = none) : Keeps CX0 P w K mg base "_law_draw" 2 ["_law_hand_here", "_law_many"] spDraw := by
  refine keeps_of F sc_draw (fun _ _ _ _ _ _ us hl => match us, hl with | [_, _], _ => rfl) (fun vs H Q E h => ?_) (fun f cdv A outer s H vs Q E hr h => ?_)
  · obtain ⟨p, c, m, rfl, _⟩ := h
    rfl
  · obtain ⟨p, c, m, rfl, ⟨cs, i, rest, tot, hp, hc, hi⟩, ⟨hm, hm2⟩, k⟩ := h
    have cp : c ≠ p := ne_of hc hp (by
      intro z
      cases cs with
      | nil => cases z
      | cons y ys => cases z)
    -- what stands behind the first if
    obtain ⟨tl, dtl, tail⟩ : ∃ tl, PSs (cxOf CX0 P w K mg base N_draw "_law_draw" (defScope s_draw) f cdv A outer s H E).nox ((defBody s_draw).drop 1) tl ∧ ∀ (H1 : Hp) (i1 r1 : Int) (x : Option V), 0 ≤ i1 → H1 p = some (.lst [.ref c, .int i1, .int r1, .int tot]) → H1 c = some (.lst (cs.map V.int)) → But p H H1 →
        tl { nx := fun _ H' => Q .non H', rt := Q } [some (V.ref p), some (V.int m), x, none] H1 := by
      refine ⟨_, (pss_cons (ps_if (pt_cmpR op_gt (pe_ix ix_list (pv 0) pe_int (fun _ _ => rfl)) pe_int (nomark _)) (pss_cons (ps_set (i := 3) sc_draw.nd rfl (by walk_at "lv") (pe_ix ix_list (pv 0) pe_int (fun _ _ => rfl)))
        (pss_cons (ps_asg (pe_op op_fdivW (pe_callTy call_int1 (by rfl) nI boot_int (pa_cons (pv 3) pa_nil)) (pv 1)) (pg_sub (pv 0) pe_int set_list))
        (pss_one (ps_ret (pe_op op_mod (pe_callTy call_int1 (by rfl) nI boot_int (pa_cons (pv 3) pa_nil)) (pv 1)))))) pss_nil)
        (pss_cons (ps_asg (pe_op op_mod (pe_callTy call_int1 (by rfl) nI boot_int (pa_cons (pe_op op_add (pe_ix ix_list (pv 0) pe_int (fun _ _ => rfl)) pe_int) pa_nil)) pe_int) (pg_sub (pv 0) pe_int set_list))
        (pss_one (ps_ret (pe_op op_mod (pe_callTy call_int1 (by rfl) nI boot_int (pa_cons (pe_k GM hr (by rfl) pass0 (pa_cons (pe_ix ix_list (pv 0) pe_int (fun _ _ => rfl)) (pa_cons (pe_ix ix_list (pv 0) pe_int (fun _ _ => rfl)) pa_nil))) pa_nil)) (pv 1)))))), ?_⟩
      intro H1 i1 r1 x h0 h1 h2 b1
      refine ⟨_, rfl, p, _, _, _, rfl, rfl, SqL.of h1, rfl, _, _, rfl, rfl, _, rfl, ?_⟩
      refine ite2 (fun _ => ?_) (fun _ => ?_)
      · refine ⟨_, rfl, p, _, _, _, rfl, rfl, SqL.of h1, rfl, _, rfl, .inl ⟨_, rfl, _, rfl, _, _, rfl, rfl, ⟨hm, hm2⟩, _, rfl, p, _, _, 2, rfl, rfl, h1, rfl, ?_⟩⟩
        refine ⟨_, rfl, .inl ⟨_, rfl, _, rfl, _, _, rfl, rfl, hm, ?_⟩⟩
        exact k _ _ (Int.emod_nonneg _ (by omega)) (Int.emod_lt_of_pos _ hm) ⟨cs, i1, _, _, upd_same, by rw [upd_ne cp]; exact h2, h0⟩ b1.upd
      · refine ⟨_, rfl, p, _, _, _, rfl, rfl, SqL.of h1, rfl, _, _, rfl, rfl, .inl ⟨_, rfl, _, _, rfl, rfl, (by show (0 : Int) < _; decide), _, rfl, p, _, _, 3, rfl, rfl, h1, rfl, ?_⟩⟩
        refine ⟨_, rfl, p, _, _, _, rfl, rfl, SqL.of upd_same, rfl, _, rfl, p, _, _, _, rfl, rfl, SqL.of upd_same, rfl, _, _, rfl, fun r => .inl ⟨_, rfl, _, rfl, _, _, rfl, rfl, hm, ?_⟩⟩
        exact k _ _ (Int.emod_nonneg _ (by omega)) (Int.emod_lt_of_pos _ hm) ⟨cs, i1, _, _, upd_same, by rw [upd_ne cp]; exact h2, h0⟩ b1.upd
    refine ⟨_, pss_cons (ps_if (PW.pt (pw_and (pt_cmpR op_eq (pe_ix ix_list (pv 0) pe_int (fun _ _ => rfl)) pe_int (nomark _)) (pw_and1 (pt_cmpR op_lt (pe_ix ix_list (pv 0) pe_int (fun _ _ => rfl)) (pe_callB call_len_seq (by rfl) nL boot_len (pa_cons (pe_ix ix_list (pv 0) pe_int (fun _ _ => rfl)) pa_nil)) (nomark _))))) (pss_cons (ps_set (i := 2) sc_draw.nd rfl (by walk_at "lv") (pe_ix ix_list (pe_ix ix_list (pv 0) pe_int (fun _ _ => rfl)) (pe_ix ix_list (pv 0) pe_int (fun _ _ => rfl)) (fun _ _ => rfl)))
        (pss_cons (ps_asg (pe_op op_add (pe_ix ix_list (pv 0) pe_int (fun _ _ => rfl)) pe_int) (pg_sub (pv 0) pe_int set_list))
        (pss_cons (ps_if (pt_cmpR op_lt (pv 2) (pe_op op_pow pe_int pe_int) (nomark _)) (pss_one (ps_ret (pe_op op_mod (pe_callTy call_int1 (by rfl) nI boot_int (pa_cons (pe_k GM hr (by rfl) pass0 (pa_cons (pe_op op_mod (pe_callTy call_int1 (by rfl) nI boot_int (pa_cons (pv 2) pa_nil)) pe_int) (pa_cons (pe_ix ix_list (pv 0) pe_int (fun _ _ => rfl)) pa_nil))) pa_nil)) (pv 1)))) pss_nil)
        (pss_one (ps_asg (pv 2) (pg_sub (pv 0) pe_int set_list)))))) pss_nil) dtl, ?_⟩
    refine ⟨_, rfl, p, _, _, _, rfl, rfl, SqL.of hp, rfl, rfl, _, rfl, ?_⟩
    refine ite2 (fun _ => ?_) (fun _ => ?_)
    · refine ⟨_, rfl, p, _, _, _, rfl, rfl, SqL.of hp, rfl, _, rfl, p, _, _, _, rfl, rfl, SqL.of hp, rfl, c, _, rfl, .inl (SqL.of hc), _, _, rfl, rfl, _, rfl, ?_⟩
      refine ite2 (fun hlt => ?_) (fun _ => ?_)
      · have hlt := of_decide_eq_true hlt
        rw [List.length_map] at hlt
        obtain ⟨v, ev, eat⟩ := atI_of (xs := cs.map V.int) hi (by rw [List.length_map]; exact hlt)
        obtain ⟨z, _, rfl⟩ := int_at ev
        refine ⟨_, rfl, p, _, _, _, rfl, rfl, SqL.of hp, rfl, _, rfl, p, _, _, _, rfl, rfl, SqL.of hp, rfl, c, _, _, _, rfl, rfl, SqL.of hc, eat, ?_⟩
        refine ⟨_, rfl, p, _, _, _, rfl, rfl, SqL.of hp, rfl, _, _, rfl, rfl, _, rfl, p, _, _, 1, rfl, rfl, hp, rfl, ?_⟩
        refine ⟨_, rfl, _, _, rfl, rfl, ⟨by decide, by decide, by decide⟩, _, _, rfl, rfl, _, rfl, ?_⟩
        refine ite2 (fun _ => ?_) (fun _ => ?_)
        · refine ⟨_, rfl, .inl ⟨_, rfl, _, _, rfl, rfl, (by show (0 : Int) < _; decide), _, rfl, p, _, _, _, rfl, rfl, SqL.of upd_same, rfl, _, _, rfl, fun r => .inl ⟨_, rfl, _, rfl, _, _, rfl, rfl, hm, ?_⟩⟩⟩
          exact k _ _ (Int.emod_nonneg _ (by omega)) (Int.emod_lt_of_pos _ hm) ⟨cs, _, _, _, upd_same, by rw [upd_ne cp]; exact hc, by omega⟩ (But.refl p H).upd
        · refine ⟨_, rfl, _, rfl, p, _, _, 2, rfl, rfl, upd_same, rfl, ?_⟩
          exact tail _ (i + 1) z _ (by omega) upd_same (by rw [upd_ne cp, upd_ne cp]; exact hc) (But.refl p H).upd.upd
      · exact tail _ i rest _ hi hp hc (But.refl p H)
    · exact tail _ i rest _ hi hp hc (But.refl p H)
end
end My
set_option Elab.async false
set_option linter.all false
set_option maxRecDepth 100000
set_option maxHeartbeats 8000000
namespace My
open PySem PySem.Spec PyProof.Rows L2
local macro_rules | `(tactic| walk_at "lv") => `(tactic| first | exact Or.inl rfl | exact Or.inr rfl)
/-! ### range with bounds of any size -/
section
variable {X : Cx} {tg : Expr}
/-- the long iterator, told by any J that yields lo, lo + c, .. -/
theorem turn_long {P : Program} {w : World} {K : PySem.W.Frag} {J : It} (it : Addr) (lo c : Int) (n : Nat) (hgo : ∀ i H, J.go i H → i < n) (hst : ∀ i H, J.stop i H → n ≤ i) (hy : ∀ (i : Nat) H, J.yld i H (.int (lo + (i : Nat) * c)) H) :
    Turn P w K tg J [it] it (fun i h => IsLongIter h it (lo + (i : Nat) * c) ((n : Int) - (i : Nat)) c) where
  mem := List.mem_singleton.mpr rfl
  obj := fun i h st b hb => by
    cases List.mem_singleton.mp hb
    refine ⟨_, st, fun v z => ?_⟩
    cases (show Data.fields _ = Data.cell v from z)
  keep := fun i h h' st k => k it (List.mem_singleton.mpr rfl) _ st
  item := by
    intro Y e1 e2 e3 hc i pns s σ H E I hf st hg
    have hi := hgo i H hg
    subst e1 e2 e3
    obtain ⟨f0, f1, f2, f3, f4, f5⟩ := hf it (List.mem_singleton.mpr rfl)
    refine (Walks.longrange (prog := Y.prog) (w := Y.w) (I.ok.hd hc) it lo c n).item i s _ _ hi st fun v h' tk hv st' kk => ?_
    obtain ⟨t, rfl⟩ := hv
    have I1 : Inv Y pns σ H { s with heap := h', toks := tk } := I.turned (fun b o hb e => kk b o (fun z => hb (List.mem_singleton.mp z)) e) f0 f1 f3 f4 f5
    exact ⟨_, rfl, go_of (s := { s with heap := h', toks := tk }) (n := "longrange_iterator") st' rfl rfl (by decide) ⟨.int (lo + (i : Nat) * c), H, I1, ⟨t, rfl⟩, hy i H, st', fun b hb => (hf b hb).1⟩⟩
  done := by
    intro Y e1 e2 e3 hc i pns s σ H E I hf st hg
    have hi := hst i H hg
    subst e1 e2 e3
    obtain ⟨f0, f1, f2, f3, f4, f5⟩ := hf it (List.mem_singleton.mpr rfl)
    exact wpAny_pyNext_long_end (I.ok.hd hc) st (by omega) fun h' eb => ⟨rfl, I.turned (t' := s.toks) (fun b o hb e => eb b o hb e) f0 f1 f3 f4 f5⟩
  self := fun A i s Q E st h => wpAny_pyIter_longiter st h
/-- range(i, j), i and j of any size -/
def iRngL (ta : TA) : TI := fun σ H R => ta σ H fun vs H1 => ∃ i j : Int, vs = [.int i, .int j] ∧ R (Itr i (j - i).toNat) H1
theorem pi_rangeL {a b : Expr} {ta : TA} {p pos : Pos} (hg : Gl X "range") (hm : X.mg "range" = none) (ha : PA X [a, b] ta) (hs : starEach [a, b] X.env = [(false, eval a X.env), (false, eval b X.env)] := by rfl) (hs2 : starEach [b] X.env = [(false, eval b X.env)] := by rfl) :
    PI X tg (.Call (.Name "range" p) [a, b] [] pos) (iRngL ta) := by
  refine ⟨fun pns s σ H R I h => Call_ (ld_blt I hg hm boot_range (PyProof.Rows.callWith_type1 (thn (ha.run pos pns s σ H _ I h) fun us s1 ⟨vs, H1, I1, r1, q1⟩ => ?_) (by rw [hs, hs2]) (by rw [hs2]; rfl)))⟩
  obtain ⟨i, j, rfl, q⟩ := q1
  obtain ⟨u, v, rfl, ru, rv⟩ : ∃ u v, us = [u, v] ∧ RelV (.int i) u ∧ RelV (.int j) v := by
    cases r1 with | cons r rr => cases rr with | cons r' rr => cases rr; exact ⟨_, _, rfl, r, r'⟩
  obtain ⟨t, rfl⟩ := ru
  obtain ⟨t', rfl⟩ := rv
  refine call_range_2 ?_
  by_cases sm : Builtin.Range.small i j 1 = true
  · have I2 : Inv X pns σ H1 { s1 with heap := s1.heap.push { cls := .type "range", data := .fields #[.int i t, .int j t', .int 1 s1.toks] }, toks := s1.toks + 1 } := I1.kept fun b o e => Heap.get?_push_of_some _ e
    refine wpAny_pyIter_range (IsRange.new ..) sm (pi_one (tk := s1.toks + 1) I2 _ (turn_range _ i (j - i).toNat) ?_ q)
    have e1 : i + ((0 : Nat) : Int) * 1 = i := by omega
    have e2 : (((j - i).toNat : Nat) : Int) - ((0 : Nat) : Int) = Builtin.Range.rangeSize i j 1 := by rw [rangeSize_one]; split <;> omega
    show IsRangeIter _ _ (i + ((0 : Nat) : Int) * 1) _ 1; rw [e1, e2]; exact Heap.get?_push_size _ rfl
  · have sm := Bool.eq_false_iff.mpr sm
    have I2 : Inv X pns σ H1 { s1 with heap := s1.heap.push { cls := .type "range", data := .fields #[.int i t, .int j t', .int 1 s1.toks] }, toks := s1.toks + 1 } := I1.kept fun b o e => Heap.get?_push_of_some _ e
    refine wpAny_pyIter_longrange (IsRange.new ..) sm (pi_one (tk := s1.toks + 1) I2 _ (turn_long (J := Itr i (j - i).toNat) _ i 1 (j - i).toNat (fun _ _ z => z) (fun _ _ z => z) (fun k H => ⟨rfl, congrArg V.int (by omega)⟩)) ?_ q)
    have e1 : i + ((0 : Nat) : Int) * 1 = i := by omega
    have e2 : (((j - i).toNat : Nat) : Int) - ((0 : Nat) : Int) = Builtin.Range.rangeSize i j 1 := by rw [rangeSize_one]; split <;> omega
    show IsLongIter _ _ (i + ((0 : Nat) : Int) * 1) _ 1; rw [e1, e2]; exact Heap.get?_push_size _ rfl
/-- range(i, j, -1), i and j of any size -/
def iRngD (ta : TA) : TI := fun σ H R => ta σ H fun vs H1 => ∃ i j : Int, vs = [.int i, .int j, .int (-1)] ∧ R (Itc i (-1) (i - j).toNat) H1
theorem pi_rangeD {a b c : Expr} {ta : TA} {p pos : Pos} (hg : Gl X "range") (hm : X.mg "range" = none) (ha : PA X [a, b, c] ta)
    (hs : starEach [a, b, c] X.env = (false, eval a X.env) :: starEach [b, c] X.env := by rfl) (hpl : (backTo pos (starEach [b, c] X.env)).any (·.1) = false := by rfl) : PI X tg (.Call (.Name "range" p) [a, b, c] [] pos) (iRngD ta) := by
  refine ⟨fun pns s σ H R I h => Call_ (ld_blt I hg hm boot_range (PyProof.Rows.callWith_type1 (thn (ha.run pos pns s σ H _ I h) fun us s1 ⟨vs, H1, I1, r1, q1⟩ => ?_) hs hpl))⟩
  obtain ⟨i, j, rfl, q⟩ := q1
  obtain ⟨u, v, x, rfl, ru, rv, rx⟩ : ∃ u v x, us = [u, v, x] ∧ RelV (.int i) u ∧ RelV (.int j) v ∧ RelV (.int (-1)) x := by
    cases r1 with | cons r rr => cases rr with | cons r' rr => cases rr with | cons r2 rr => cases rr; exact ⟨_, _, _, rfl, r, r', r2⟩
  obtain ⟨t, rfl⟩ := ru
  obtain ⟨t', rfl⟩ := rv
  obtain ⟨t2, rfl⟩ := rx
  refine call_range_3 (by decide) ?_ (.inl (PyProof.noPylong_small (by decide)))
  have e1 : i + ((0 : Nat) : Int) * (-1) = i := by omega
  have e2 : (((i - j).toNat : Nat) : Int) - ((0 : Nat) : Int) = Builtin.Range.rangeSize i j (-1) := by rw [PySem.W.rangeSize_downNat i j]; omega
  have I2 : Inv X pns σ H1 { s1 with heap := s1.heap.push { cls := .type "range", data := .fields #[.int i t, .int j t', .int (-1) t2] } } := I1.kept (t' := s1.toks) fun b o e => Heap.get?_push_of_some _ e
  by_cases sm : Builtin.Range.small i j (-1) = true
  · refine wpAny_pyIter_range (IsRange.new ..) sm (pi_one (tk := s1.toks) I2 _ (turn_rangeC _ i (-1) (i - j).toNat) ?_ q)
    show IsRangeIter _ _ (i + ((0 : Nat) : Int) * (-1)) _ (-1); rw [e1, e2]; exact Heap.get?_push_size _ rfl
  · refine wpAny_pyIter_longrange (IsRange.new ..) (Bool.eq_false_iff.mpr sm) (pi_one (tk := s1.toks) I2 _ (turn_long (J := Itc i (-1) (i - j).toNat) _ i (-1) (i - j).toNat (fun _ _ z => z) (fun _ _ z => z) (fun k H => ⟨rfl, rfl⟩)) ?_ q)
    show IsLongIter _ _ (i + ((0 : Nat) : Int) * (-1)) _ (-1); rw [e1, e2]; exact Heap.get?_push_size _ rfl
end
end My
set_option Elab.async false
set_option linter.all false
set_option maxRecDepth 100000
set_option maxHeartbeats 8000000
namespace My
open PySem PySem.Spec PyProof.Rows L2
local macro_rules | `(tactic| walk_at "lv") => `(tactic| first | exact Or.inl rfl | exact Or.inr rfl)
/-- the names of built-ins that the text does not take for itself -/
structure Nb (mg : Str → Option Value) : Prop where
  int : mg "int" = none
  bool : mg "bool" = none
  str : mg "str" = none
  list : mg "list" = none
  tuple : mg "tuple" = none
  isinstance : mg "isinstance" = none
  enumerate : mg "enumerate" = none
  abs : mg "abs" = none
  len : mg "len" = none
  range : mg "range" = none
  min : mg "min" = none
  all : mg "all" = none
  any : mg "any" = none
  verr : mg "ValueError" = none
section
variable {P : Program} {w : World} {K : PySem.W.Frag} {mg : Str → Option Value} {base : Heap}
/-! ### is_whole -/
def spWhole : Sp := fun vs H Q _ => ∃ a : Int, vs = [.int a] ∧ Q (.bl true) H
abbrev s_whole : Stmt := top 2
abbrev N_whole : List Str := ["thing"]
theorem sc_whole : FnScope N_whole ["thing"] (defScope s_whole) := ⟨rfl, rfl, rfl, by decide +kernel, rfl, by decide +kernel, by decide +kernel⟩
theorem kp_whole (F : At K mg "is_whole" s_whole) (N : Nb mg) : Keeps CX0 P w K mg base "is_whole" 1 ["thing"] spWhole := by
  refine keeps_of F sc_whole (fun _ _ _ _ _ _ us hl => match us, hl with | [_], _ => rfl) (fun vs H Q E h => ?_) (fun f cdv A outer s H vs Q E hr h => ?_)
  · obtain ⟨a, rfl, _⟩ := h
    rfl
  · obtain ⟨a, rfl, k⟩ := h
    refine ⟨_, (pss_one (ps_ret (pe_and (pe_callB call_isi (by rfl) N.isinstance boot_isinstance (pa_cons (pv 0) (pa_cons (pe_bltn (v := .ty "int") (by rfl) N.int (by decide +kernel) rfl) pa_nil))) (pe_one (pe_not (pe_callB call_isi (by rfl) N.isinstance boot_isinstance (pa_cons (pv 0) (pa_cons (pe_bltn (v := .ty "bool") (by rfl) N.bool (by decide +kernel) rfl) pa_nil)))))))), ?_⟩
    refine ⟨_, rfl, .int a, .ty "int", _, _, true, rfl, .ty "int", .base (.int a), kit_ty (by decide +kernel), _, rfl, ?_⟩
    exact ⟨_, rfl, .int a, .ty "bool", _, _, false, rfl, .ty "bool", .base (.int a), kit_ty (by decide +kernel), _, rfl, k⟩
/-! ### is_whole_from -/
def spWholeF : Sp := fun vs H Q _ => ∃ a lo hi : Int, vs = [.int a, .int lo, .int hi] ∧ Q (.bl (decide (lo ≤ a) && decide (a ≤ hi))) H
abbrev s_wholeF : Stmt := top 3
abbrev N_wholeF : List Str := ["thing", "low", "high"]
theorem sc_wholeF : FnScope N_wholeF ["thing", "low", "high"] (defScope s_wholeF) := ⟨rfl, rfl, rfl, by decide +kernel, rfl, by decide +kernel, by decide +kernel⟩
theorem kp_wholeF (F : At K mg "is_whole_from" s_wholeF) (G : Keeps CX0 P w K mg base "is_whole" 1 ["thing"] spWhole) : Keeps CX0 P w K mg base "is_whole_from" 2 ["thing", "low", "high"] spWholeF := by
  refine keeps_of F sc_wholeF (fun _ _ _ _ _ _ us hl => match us, hl with | [_, _, _], _ => rfl) (fun vs H Q E h => ?_) (fun f cdv A outer s H vs Q E hr h => ?_)
  · obtain ⟨a, lo, hi, rfl, _⟩ := h
    rfl
  · obtain ⟨a, lo, hi, rfl, k⟩ := h
    refine ⟨_, (pss_one (ps_ret (pe_and (pe_k G hr (by rfl) pass0 (pa_cons (pv 0) pa_nil)) (pe_one (pe_chain op_le op_le (pv 1) (pv 0) (pv 2)))))), ?_⟩
    refine ⟨_, rfl, a, rfl, _, rfl, ?_⟩
    refine ⟨_, rfl, _, rfl, _, _, rfl, rfl, _, rfl, ?_⟩
    by_cases h1 : lo ≤ a
    · rw [decide_eq_true h1] at k ⊢
      exact ⟨_, rfl, _, _, rfl, rfl, k⟩
    · rw [decide_eq_false h1] at k ⊢
      exact k
end
end My
set_option Elab.async false
set_option linter.all false
set_option maxRecDepth 100000
set_option maxHeartbeats 8000000
namespace My
open PySem PySem.Spec PyProof.Rows L2
local macro_rules | `(tactic| walk_at "lv") => `(tactic| first | exact Or.inl rfl | exact Or.inr rfl)
/-- a list or a tuple -/
def SqA (H : Hp) (a : Addr) (xs : List V) : Prop := H a = some (.lst xs) ∨ H a = some (.tup xs)
theorem SqA.same {H H' : Hp} {a : Addr} {xs : List V} (s : Same H H') (h : SqA H a xs) : SqA H' a xs := h.elim (fun h => .inl (s _ _ h)) fun h => .inr (s _ _ h)
theorem SqA.keep {H H' : Hp} {a : Addr} {xs : List V} (s : Same H H') (h : SqA H a xs) : H' a = H a := h.elim (fun h => by rw [s _ _ h, h]) fun h => by rw [s _ _ h, h]
theorem same_new {H H1 : Hp} {p : Addr} {o : HO} (s : Same H H1) (hp : H1 p = none) : Same H (upd H1 p o) := fun b u e => by
  rw [upd_ne (ne_of_none (s _ _ e) hp)]
  exact s _ _ e
/-- a walk of a name's list or tuple -/
def iSeqV (i : Nat) : TI := fun σ H R => ∃ a xs, σ[i]? = some (some (.ref a)) ∧ SqA H a xs ∧ ∀ J, Walk J xs.length (fun H' => H' a = H a) (YAt xs) → R J H
theorem pi_seqV {X : Cx} {tg l : Expr} {i : Nat} (h : PE X l (tVar i)) : PI X tg l (iSeqV i) := ⟨fun pins s σ H R I q => by
  obtain ⟨a, xs, e, hs, k⟩ := q
  rcases hs with hs | hs
  · exact (pi_list h).run pins s σ H R I ⟨.ref a, e, a, rfl, ⟨xs, SqL.of hs⟩, k _ (walk_list.mono (fun H' e => SqL.of (e.trans hs)) fun _ _ _ _ _ _ y => y)⟩
  · exact (pi_tup h).run pins s σ H R I ⟨.ref a, e, a, rfl, ⟨xs, SqT.of hs⟩, k _ (walk_tup.mono (fun H' e => SqT.of (e.trans hs)) fun _ _ _ _ _ _ y => y)⟩⟩
section
variable {P : Program} {w : World} {K : PySem.W.Frag} {mg : Str → Option Value} {base : Heap}
/-! ### is_sequence -/
def spSeq : Sp := fun vs H Q _ => ∃ a xs, vs = [.ref a] ∧ SqA H a xs ∧ ∀ H', Same H H' → Q (.bl true) H'
abbrev s_seq : Stmt := top 4
abbrev N_seq : List Str := ["thing"]
theorem sc_seq : FnScope N_seq ["thing"] (defScope s_seq) := ⟨rfl, rfl, rfl, by decide +kernel, rfl, by decide +kernel, by decide +kernel⟩
theorem kp_seq (F : At K mg "is_sequence" s_seq) (N : Nb mg) : Keeps CX0 P w K mg base "is_sequence" 1 ["thing"] spSeq := by
  refine keeps_of F sc_seq (fun _ _ _ _ _ _ us hl => match us, hl with | [_], _ => rfl) (fun vs H Q E h => ?_) (fun f cdv A outer s H vs Q E hr h => ?_)
  · obtain ⟨a, xs, rfl, _⟩ := h
    rfl
  · obtain ⟨a, xs, rfl, hs, k⟩ := h
    refine ⟨_, (pss_one (ps_ret (pe_callB call_isiT (by rfl) N.isinstance boot_isinstance (pa_cons (pv 0) (pa_cons (pe_tup (pa_cons (pe_bltn (v := .ty "list") (by rfl) N.list (by decide +kernel) rfl) (pa_cons (pe_bltn (v := .ty "tuple") (by rfl) N.tuple (by decide +kernel) rfl) pa_nil))) pa_nil))))), ?_⟩
    refine ⟨_, rfl, ⟨(by show 2 ≤ sizeLine; decide), fun t ht => ?_⟩⟩
    have s1 := same_new (o := .tup [V.ty "list", V.ty "tuple"]) (Same.refl H) ht
    rcases hs with hs | hs
    · exact ⟨.ref a, t, [.ty "list", .ty "tuple"], _, _, true, rfl, upd_same, .cons (.ty _) (.cons (.ty _) .nil), .base (.lst (s1 _ _ hs)), kitAny_cons (b := true) (kit_ty (by decide +kernel)) (fun z => nomatch z) (fun _ => rfl), k _ s1⟩
    · exact ⟨.ref a, t, [.ty "list", .ty "tuple"], _, _, true, rfl, upd_same, .cons (.ty _) (.cons (.ty _) .nil), .base (.tup (s1 _ _ hs)), kitAny_cons (b := false) (kit_ty (by decide +kernel)) (fun _ => kitAny_cons (b := true) (kit_ty (by decide +kernel)) (fun z => nomatch z) (fun _ => rfl)) (fun z => nomatch z), k _ s1⟩
/-! ### _check_core -/
def spCore : Sp := fun vs H Q _ => ∃ lo hi : Int, vs = [.int lo, .int hi] ∧ -20000 ≤ lo ∧ hi ≤ 20000 ∧ lo ≤ hi + 1 ∧ Q .non H
abbrev s_core : Stmt := top 16
abbrev N_core : List Str := ["low", "high"]
theorem sc_core : FnScope N_core ["low", "high"] (defScope s_core) := ⟨rfl, rfl, rfl, by decide +kernel, rfl, by decide +kernel, by decide +kernel⟩
theorem kp_core (F : At K mg "_check_core" s_core) (G : Keeps CX0 P w K mg base "is_whole" 1 ["thing"] spWhole) (mF : ∃ t, mg "FARTHEST" = some (.int 20000 t)) : Keeps CX0 P w K mg base "_check_core" 2 ["low", "high"] spCore := by
  refine keeps_of F sc_core (fun _ _ _ _ _ _ us hl => match us, hl with | [_, _], _ => rfl) (fun vs H Q E h => ?_) (fun f cdv A outer s H vs Q E hr h => ?_)
  · obtain ⟨lo, hi, rfl, _⟩ := h
    rfl
  · obtain ⟨lo, hi, rfl, h1, h2, h3, k⟩ := h
    obtain ⟨t, mF⟩ := mF
    refine ⟨_, (pss_cons (ps_if (PW.pt (pw_or (pt_not (pt_val (pe_k G hr (by rfl) pass0 (pa_cons (pv 0) pa_nil)))) (pw_or1 (pt_not (pt_val (pe_k G hr (by rfl) pass0 (pa_cons (pv 1) pa_nil))))))) (pss_one ps_never) pss_nil)
        (pss_one (ps_if (PW.pt (pw_or (pt_cmpR op_lt (pv 0) (pe_un un_neg (pe_glob (v := .int 20000) (by rfl) mF ⟨_, rfl⟩)) (nomark _)) (pw_or (pt_cmpR op_gt (pv 1) (pe_glob (v := .int 20000) (by rfl) mF ⟨_, rfl⟩) (nomark _)) (pw_or1 (pt_cmpR op_gt (pv 0) (pe_op op_add (pv 1) pe_int) (nomark _)))))) (pss_one ps_never) pss_nil))), ?_⟩
    refine ⟨_, rfl, lo, rfl, _, rfl, iteF ⟨_, rfl, hi, rfl, _, rfl, iteF ?_⟩⟩
    refine ⟨_, rfl, _, rfl, _, _, rfl, rfl, _, rfl, ?_⟩
    rw [decide_eq_false (by omega : ¬ lo < -20000)]
    refine iteF ⟨_, rfl, _, _, rfl, rfl, _, rfl, ?_⟩
    rw [decide_eq_false (by omega : ¬ hi > 20000)]
    refine iteF ⟨_, rfl, _, rfl, _, _, rfl, rfl, _, _, rfl, rfl, _, rfl, ?_⟩
    rw [decide_eq_false (by omega : ¬ lo > hi + 1)]
    exact iteF k
/-! ### _are_unlike_from -/
def spUnl : Sp := fun vs H Q _ => ∃ (a : Addr) (ns : List Int) (lo hi : Int), vs = [.ref a, .int lo, .int hi] ∧ SqA H a (ns.map V.int) ∧ ns.Nodup ∧ ns.length ≤ 60000 ∧ (∀ n ∈ ns, lo ≤ n ∧ n ≤ hi) ∧ ∀ H', Same H H' → Q (.bl true) H'
abbrev s_unl : Stmt := top 17
abbrev N_unl : List Str := ["numbers", "low", "high", "seen", "number"]
theorem sc_unl : FnScope N_unl ["numbers", "low", "high"] (defScope s_unl) := ⟨rfl, rfl, rfl, by decide +kernel, rfl, by decide +kernel, by decide +kernel⟩
theorem kp_unl (F : At K mg "_are_unlike_from" s_unl) (G : Keeps CX0 P w K mg base "is_whole_from" 2 ["thing", "low", "high"] spWholeF) (G2 : Keeps CX0 P w K mg base "is_sequence" 1 ["thing"] spSeq) :
    Keeps CX0 P w K mg base "_are_unlike_from" 3 ["numbers", "low", "high"] spUnl := by
  refine keeps_of F sc_unl (fun _ _ _ _ _ _ us hl => match us, hl with | [_, _, _], _ => rfl) (fun vs H Q E h => ?_) (fun f cdv A outer s H vs Q E hr h => ?_)
  · obtain ⟨a, ns, lo, hi, rfl, _⟩ := h
    rfl
  · obtain ⟨a, ns, lo, hi, rfl, hs, nd, hl, hb, k⟩ := h
    have hu := hu_of hr
    refine ⟨_, (pss_cons (ps_if (pt_not (pt_val (pe_k G2 (hr.mono (by decide)) (by rfl) pass0 (pa_cons (pv 0) pa_nil)))) (pss_one (ps_ret pe_bl)) pss_nil)
        (pss_cons (ps_set (i := 3) sc_unl.nd rfl (by walk_at "lv") pe_dnewK)
        (pss_cons (ps_for PassesOwn.never rfl (pi_seqV (pv 0)) (pg_name (i := 4) sc_unl.nd rfl (by walk_at "lv")) (pss_cons (ps_if (PW.pt (pw_or (pt_not (pt_val (pe_k G hr (by rfl) pass0 (pa_cons (pv 4) (pa_cons (pv 1) (pa_cons (pv 2) pa_nil)))))) (pw_or1 (pt_cmp (pc_din hu (pv 4) (pv 3)))))) (pss_one (ps_ret pe_bl)) pss_nil)
        (pss_one (ps_dput hu (pv 3) (pv 4) pe_bl rfl))))
        (pss_one (ps_ret pe_bl))))), ?_⟩
    refine ⟨_, rfl, a, _, rfl, hs, fun H1 s1 => ⟨_, rfl, iteF ?_⟩⟩
    intro d hd
    have s2 := same_new (o := .dK []) s1 hd
    refine ⟨a, _, rfl, hs.same s2, fun J wk => for_it wk (fun i σ H2 => ∃ x kvs, σ = [some (.ref a), some (.int lo), some (.int hi), some (.ref d), x] ∧ H2 d = some (.dK kvs) ∧ kvs.length ≤ i ∧ (∀ n : Int, (valV kvs (Sum.inl n)).isSome = true → n ∈ ns.take i) ∧ Same H H2 ∧ (∀ b o, b ≠ d → upd H1 d (.dK []) b = some o → H2 b = some o))
      ⟨_, [], rfl, upd_same, Nat.le_refl 0, (fun n h => by simp [valV_nil] at h), s2, fun b o _ e => e⟩ (fun i σ H2 _ ⟨_, _, _, _, _, _, s3, _⟩ => by rw [hs.keep s3, hs.keep s2]) ?_ ?_⟩
    · rintro i v σ H2 H3 hi' ⟨x, kvs, rfl, e1, e2, e3, s3, b3⟩ ⟨rfl, e4⟩
      obtain ⟨n, hn, rfl⟩ := int_at e4
      have hmem := List.mem_of_getElem? hn
      have hbn := hb n hmem
      refine ⟨_, rfl, _, rfl, _, rfl, n, lo, hi, rfl, ?_⟩
      rw [decide_eq_true hbn.1, decide_eq_true hbn.2]
      refine ⟨_, rfl, iteF ⟨_, rfl, _, rfl, d, _, rfl, DGet.k (k := Sum.inl n) e1, _, rfl, ?_⟩⟩
      have hnone : valV kvs (Sum.inl n) = none := by
        cases e : valV kvs (Sum.inl n) with
        | none => rfl
        | some y =>
          have q := e3 n (by rw [e]; rfl)
          obtain ⟨j, hj, hj2⟩ := List.mem_take_iff_getElem.mp q
          obtain ⟨hi3, hi4⟩ := List.getElem?_eq_some_iff.mp hn
          exact absurd (hj2.trans hi4.symm) (List.pairwise_iff_getElem.mp nd j i (by omega) hi3 (by omega))
      rw [hnone]
      have hi1000 : i < 60000 := by rw [List.length_map] at hi'; omega
      refine iteF ⟨_, rfl, _, rfl, d, _, rfl, DPut.k (k := Sum.inl n) e1 (smallB (by omega)), ?_⟩
      have hdn : H1 d = none := hd
      refine ⟨_, _, rfl, upd_same, Nat.le_trans (length_putK _ _ _) (by omega), fun m hm => ?_, fun b o e => ?_, fun b o hb' e => ?_⟩
      · rw [valV_put] at hm
        obtain ⟨hi3, hi4⟩ := List.getElem?_eq_some_iff.mp hn
        rw [List.take_succ_eq_append_getElem hi3]
        by_cases q : (Sum.inl m : Key) = Sum.inl n
        · cases q
          exact List.mem_append_right _ (by rw [hi4]; exact List.mem_singleton.mpr rfl)
        · rw [if_neg q] at hm
          exact List.mem_append_left _ (e3 m hm)
      · have hbd : b ≠ d := ne_of_none (s1 _ _ e) hdn
        rw [upd_ne hbd]
        exact s3 b o e
      · rw [upd_ne hb']
        exact b3 b o hb' e
    · rintro σ H2 ⟨x, kvs, rfl, e1, e2, e3, s3, b3⟩
      exact k _ s3
end
end My
set_option Elab.async false
set_option linter.all false
set_option maxRecDepth 100000
set_option maxHeartbeats 8000000
namespace My
open PySem PySem.Spec PyProof.Rows L2
/-! ### facts of the error classes -/
theorem and_ok {a b : Bool} (h : (a && b) = true) : a = true ∧ b = true := Bool.and_eq_true_iff.mp h
theorem clsB_ok {K : PySem.W.Frag} {C : Addr} {nm : Str} {bm : List Value} (h : clsB K C nm bm = true) :
    ∃ q N bs sn sub ab col dd k0 k1 k2 k3 k5, K.lookup C = some (excClassObj nm q C N bs bm true sn sub ab col dd k0 k1 k2 k3 k5 "ValueError.__new__") := by
  unfold clsB at h
  split at h
  · rename_i t dd cd sl lk
    obtain ⟨nm', bs, mro, ns, qn, hd, sn, sb, ab, col, del⟩ := cd
    obtain ⟨l⟩ := sl
    obtain ⟨ht, h⟩ := and_ok h
    have ht := of_decide_eq_true ht
    dsimp only at h
    split at h
    · rename_i C' r k0 k1 k2 k3 n k5
      obtain ⟨h1, h⟩ := and_ok h
      obtain ⟨h2, h⟩ := and_ok h
      obtain ⟨h3, h⟩ := and_ok h
      obtain ⟨h4, h⟩ := and_ok h
      obtain ⟨h5, h6⟩ := and_ok h
      have h1 := of_decide_eq_true h1
      have h2 := of_decide_eq_true h2
      have h3 : del = false := by simpa using h3
      have h4 : hd = true := h4
      have h5 := of_decide_eq_true h5
      have h6 := of_decide_eq_true h6
      rw [lk, ht, h1, h2, h3, h4, h5, h6]
      exact ⟨_, _, _, _, _, _, _, _, _, _, _, _, _, rfl⟩
    · cases h
  · cases h
/-- what is told of an error class x with the attributes fs; b: the class above it -/
structure ExF (K : PySem.W.Frag) (mg : Str → Option Value) (x b : Str) (fs : List Str) : Prop where
  g : mg x = some (.ref (He.ga K x))
  lk : ∃ q N bs sn sub ab col dd k0 k1 k2 k3 k5, K.lookup (He.ga K x) = some (excClassObj x q (He.ga K x) N bs (.ref (He.ga K b) :: He.veBase) true sn sub ab col dd k0 k1 k2 k3 k5 "ValueError.__new__")
  sa : PySem.W.findIn K (.ref (He.ga K x)) "__setattr__" = some (some (.builtin "object.__setattr__"))
  exC : PySem.W.subIn K (.ref (He.ga K x)) (.type "BaseException") = some true
  kC : PySem.W.keepIn K (.ref (He.ga K x)) = true
  ga : PySem.W.findIn K (.ref (He.ga K x)) "__getattribute__" = some (some (.builtin "BaseException.__getattribute__"))
  gg : PySem.W.findIn K (.ref (He.ga K x)) "__getattr__" = some none
  ca : PySem.W.findIn K (.ref (He.ga K x)) "__class__" = some (some (.builtin "object.__class__"))
  mo : PySem.W.mroIn K (He.ga K x) (.type "object") = some true
  no : ∀ f ∈ fs, PySem.W.findIn K (.ref (He.ga K x)) f = some none
  kB : PySem.W.kitOne K (.ref (He.ga K x)) (.ref (He.ga K b)) = some true
  kV : PySem.W.kitOne K (.ref (He.ga K x)) (.type "ValueError") = some true
  xm : PySem.W.exmOne K (.ref (He.ga K x)) (.ref (He.ga K b)) = some true
  new : fs = [] → PySem.W.excIn K (He.ga K x) He.veBase "ValueError.__new__" = true
  ini : fs ≠ [] → PySem.W.findIn K (.ref (He.ga K x)) "__init__" = some (some (.ref (He.ma K (He.ga K x) "__init__"))) ∧ PySem.W.typeIn K (.ref (He.ma K (He.ga K x) "__init__")) = some (.type "function")
theorem exB_ok {K : PySem.W.Frag} {h : Heap} {mg : Str → Option Value} (X : K.In h) (G : h.Ns mainGlobals mg) {x b : Str} {fs : List Str} (c : exB K b (x, fs) = true) : ExF K mg x b fs := by
  obtain ⟨c1, c⟩ := and_ok c
  obtain ⟨c2, c⟩ := and_ok c
  obtain ⟨c3, c⟩ := and_ok c
  obtain ⟨c4, c⟩ := and_ok c
  obtain ⟨c5, c⟩ := and_ok c
  obtain ⟨c6, c⟩ := and_ok c
  obtain ⟨c7, c⟩ := and_ok c
  obtain ⟨c8, c⟩ := and_ok c
  obtain ⟨c9, c⟩ := and_ok c
  obtain ⟨c10, c⟩ := and_ok c
  obtain ⟨c11, c⟩ := and_ok c
  obtain ⟨c12, c⟩ := and_ok c
  obtain ⟨c13, c⟩ := and_ok c
  refine ⟨He.glo_ok X G c1, clsB_ok c2, of_decide_eq_true c3, of_decide_eq_true c4, c5, of_decide_eq_true c6, of_decide_eq_true c7, of_decide_eq_true c8, of_decide_eq_true c9, fun f hf => of_decide_eq_true (List.all_eq_true.mp c10 f hf), of_decide_eq_true c11, of_decide_eq_true c12, of_decide_eq_true c13, fun e => ?_, fun e => ?_⟩
  · subst e
    exact c
  · cases fs with
    | nil => exact absurd rfl e
    | cons f r =>
      obtain ⟨d1, d2⟩ := and_ok c
      exact ⟨of_decide_eq_true d1, of_decide_eq_true d2⟩
section
variable {K : PySem.W.Frag} {mg : Str → Option Value} {x b : Str} {fs : List Str}
theorem ExF.ty (T : ExF K mg x b fs) : PySem.W.typeIn K (.ref (He.ga K x)) = some (.type "type") := by
  obtain ⟨q, N, bs, sn, sub, ab, col, dd, k0, k1, k2, k3, k5, lk⟩ := T.lk
  show ((K.lookup (He.ga K x)).map (·.cls)) = _
  rw [lk]
  rfl
theorem ExF.cl (T : ExF K mg x b fs) : (PySem.W.clsIn K (He.ga K x)).isSome = true := by
  obtain ⟨q, N, bs, sn, sub, ab, col, dd, k0, k1, k2, k3, k5, lk⟩ := T.lk
  unfold PySem.W.clsIn
  rw [lk]
  rfl
theorem ExF.dict (T : ExF K mg x b fs) : PySem.W.hasDictIn K (He.ga K x) = true := by
  obtain ⟨q, N, bs, sn, sub, ab, col, dd, k0, k1, k2, k3, k5, lk⟩ := T.lk
  unfold PySem.W.hasDictIn PySem.W.clsIn
  rw [lk]
  rfl
theorem ExF.ox (T : ExF K mg x b fs) : OexC K (He.ga K x) := by
  obtain ⟨q, N, bs, sn, sub, ab, col, dd, k0, k1, k2, k3, k5, lk⟩ := T.lk
  exact ⟨⟨x, q, N, bs, _, sn, sub, ab, col, dd, k0, k1, k2, k3, k5, lk, (show PySem.HandSPX.refsVE He.veBase = true by decide +kernel)⟩, T.sa, T.exC, T.ty, T.kC⟩
/-- two of them: is the one the other -/
theorem kit_two {y : Str} {gs : List Str} (T : ExF K mg x b fs) (U : ExF K mg y b gs) (hb : y ≠ b) (hB : ∃ q N bs bm sn sub ab col dd k0 k1 k2 k3 k5 nid, K.lookup (He.ga K b) = some (excClassObj b q (He.ga K b) N bs bm true sn sub ab col dd k0 k1 k2 k3 k5 nid)) :
    PySem.W.kitOne K (.ref (He.ga K x)) (.ref (He.ga K y)) = some (decide (x = y)) := by
  by_cases e : x = y
  · subst e
    rw [decide_eq_true rfl]
    exact if_pos (by simp)
  · rw [decide_eq_false e]
    obtain ⟨q, N, bs, sn, sub, ab, col, dd, k0, k1, k2, k3, k5, lx⟩ := T.lk
    obtain ⟨q', N', bs', sn', sub', ab', col', dd', k0', k1', k2', k3', k5', ly⟩ := U.lk
    obtain ⟨q2, N2, bs2, bm2, sn2, sub2, ab2, col2, dd2, m0, m1, m2, m3, m5, nid, lb⟩ := hB
    have n1 : He.ga K x ≠ He.ga K y := fun z => by
      rw [z, ly] at lx
      have z1 := Option.some.inj lx
      simp only [excClassObj, Obj.mk.injEq, Data.cls.injEq, ClassData.mk.injEq] at z1
      exact e z1.2.2.1.1.symm
    have n2 : He.ga K b ≠ He.ga K y := fun z => by
      rw [z, ly] at lb
      have z1 := Option.some.inj lb
      simp only [excClassObj, Obj.mk.injEq, Data.cls.injEq, ClassData.mk.injEq] at z1
      exact hb z1.2.2.1.1
    have n3 : ¬ ((Value.ref (He.ga K x) == Value.ref (He.ga K y)) = true) := fun z => n1 (Value.ref.inj (beq_iff_eq.mp z))
    unfold PySem.W.kitOne
    rw [if_neg n3]
    show (if ((PySem.W.clsIn K (He.ga K y)).isSome && PySem.W.typeIn K (.ref (He.ga K y)) == some (.type "type")) = true then PySem.W.subIn K (.ref (He.ga K x)) (.ref (He.ga K y)) else none) = some false
    rw [if_pos (by rw [U.cl, U.ty]; rfl)]
    show PySem.W.mroIn K (He.ga K x) (.ref (He.ga K y)) = some false
    unfold PySem.W.mroIn PySem.W.clsIn
    rw [lx]
    have c1 : (Value.ref (He.ga K y) == Value.ref (He.ga K x)) = false := by
      rw [beq_eq_false_iff_ne]
      exact fun z => n1 (Value.ref.inj z).symm
    have c2 : (Value.ref (He.ga K y) == Value.ref (He.ga K b)) = false := by
      rw [beq_eq_false_iff_ne]
      exact fun z => n2 (Value.ref.inj z).symm
    simp [List.contains_cons, c1, c2, He.veBase]
    exact ⟨fun z => n1 z.symm, fun z => n2 z.symm⟩
end
end My

namespace My
open PySem PySem.Spec PyProof.Rows L2
/-! ### errors as values: made, asked for their class, read -/
section
variable {X : Cx} {e : Expr} {es : List Expr} {ta : TA} {te : TE} {p pos : Pos} {x b n : Str} {fs : List Str}
/-- X(), no __init__ of its own -/
theorem pe_exv0 (T : ExF X.K X.mg x b fs) (nf : fs = []) (hg : Gl X x) (dbg : (x == ("__debug__" : Str)) = false := by decide) :
    PE X (.Call (.Name x p) [] [] pos) (fun _ H Q => ∀ a, H a = none → Q (.ref a) (upd H a (exo a (He.ga X.K x) none))) := by
  refine ⟨fun pins s σ H Q I h => ?_⟩
  refine wpAny_Call_Name_kw (ld_glob I hg T.g ?_ dbg)
  refine PySem.W.callWith_K0 I.kIn T.kC ?_
  show wpAny _ _ (call (.ref (He.ga X.K x)) []) _ _ _
  obtain ⟨bm, N, nm, qn, bs, hdct, sn, sub, ab, col, dd, k0, k1, k2, k3, k5, mN, hC, hN, hni, TL⟩ := exc_obj I.kIn (T.new nf)
  refine wpAny_call_exc_subT PySem.F.excBase_ValueError TL hC hN hni (fun h' a hm => ?_) (by show 0 ≤ sizeLine; exact Nat.zero_le _)
  have hn : H a = none := I.hok.gone hm.new
  obtain ⟨tt, et, _, _⟩ := hm.there
  exact ⟨.ref a, _, I.laidN hm.keeps hm.new hn (exo_ok et), rfl, h a hn⟩
/-- the reading of X(e, ..) with an __init__ that keeps sp -/
def tExv (C : Addr) (sp : Sp) (ta : TA) : TE := fun σ H Q => ta σ H fun vs H1 => vs.length ≤ 1000 ∧ ∀ a, H1 a = none →
  sp (.ref a :: vs) (upd H1 a (exo a C none)) (fun v H2 => v = .non ∧ Q (.ref a) H2) fun _ _ _ => False
theorem pe_exv {CX : CXT} {k : Nat} {fI : Addr} {fd : FuncData} {ps : List Str} {sp : Sp} (T : ExF X.K X.mg x b fs) (nf : fs ≠ []) (ef : fI = He.ma X.K (He.ga X.K x) "__init__") (F1 : FnOk X.prog X.w X.K X.mg X.base CX k fI fd ps sp)
    (hr : Room (k + 1) X.A) (hb : Binds X.K fd ps []) (hx : Passes CX X (fun _ _ _ => False)) (hg : Gl X x) (ha : PA X (e :: es) ta)
    (dbg : (x == ("__debug__" : Str)) = false := by decide) (hst : starEach (e :: es) X.env = (false, eval e X.env) :: starEach es X.env := by rfl) (hpl : (backTo pos (starEach es X.env)).any (·.1) = false := by rfl) :
    PE X (.Call (.Name x p) (e :: es) [] pos) (tExv (He.ga X.K x) sp ta) := by
  subst ef
  refine ⟨fun pins s σ H Q I h => ?_⟩
  obtain ⟨iC, tI⟩ := T.ini nf
  obtain ⟨nm, q, N, bs, bm, sn, sub, ab, col, dd, k0, k1, k2, k3, k5, hC, hbm⟩ := T.ox.cls
  refine wpAny_Call_Name_kw (ld_glob I hg T.g ?_ dbg)
  refine PySem.W.callWith_K (h₀ := X.base) I.ok.mod.kin T.kC ?_ hst hpl
  refine thn (ha.run pos pins s σ H _ I h) fun us s1 hh => ?_
  obtain ⟨vs, H1, I1, r1, hz, q1⟩ := hh
  refine ⟨I1.kIn, ?_⟩
  show wpAny _ _ (call (.ref (He.ga X.K x)) us) _ _ _
  obtain ⟨hp, g, dr, tk, os⟩ := s1
  have hup : hp.objs.size ≤ hp.objs.size + 1 := Nat.le_succ _
  have hfr : H1 (hp.objs.size + 1) = none := I1.hok.fresh hup
  have hq := q1 _ hfr
  let h2 : Heap := (hp.push (PySem.W.kdv_tup us)).push (PySem.HandSPX.excO (He.ga X.K x) hp.objs.size)
  have kk : ∀ a o, hp.get? a = some o → h2.get? a = some o := fun a o z => Heap.get?_push_of_some _ (Heap.get?_push_of_some _ z)
  have hget : h2.get? (hp.objs.size + 1) = some (PySem.HandSPX.excO (He.ga X.K x) hp.objs.size) := by
    show ((hp.push (PySem.W.kdv_tup us)).push (PySem.HandSPX.excO (He.ga X.K x) hp.objs.size)).get? _ = _
    heap_get
  have I2 : Inv X pins σ (upd H1 (hp.objs.size + 1) (exo (hp.objs.size + 1) (He.ga X.K x) none)) ⟨h2, g, dr, tk, os⟩ := I1.laid (t' := tk) (h' := h2) kk hup (exo_ok hget)
  have rr : Vals (V.ref (hp.objs.size + 1) :: vs) (Value.ref (hp.objs.size + 1) :: us) := .cons rfl r1
  have hl : (Value.ref (hp.objs.size + 1) :: us).length = ps.length := by
    rw [← rr.length]
    exact F1.len _ _ _ _ hq
  have few : us.length ≤ sizeLine := by rw [← r1.length, sizeLine_eq]; omega
  have hbb := hb ⟨h2, g, dr, tk, os⟩ (Value.ref (hp.objs.size + 1) :: us) I2.kIn (by rw [List.append_nil]; exact hl)
  rw [List.append_nil] at hbb
  refine wpAny_call (PySem.HandSPX.call_own PySem.F.excBase_ValueError (fun Y => PySem.HandSPX.refsVE_contains Y bm hbm) (I1.kIn _ _ hC) (PySem.W.looks_findIn I1.kIn iC) (fun self => PySem.W.bind_fn I1.kIn self tI) few ?_)
  refine codeAny_mono (F1.run _ X.stack _ _ ⟨Value.ref (hp.objs.size + 1) :: us, []⟩ _ _ _ (fun _ _ _ => False) (hr.make (He.ga X.K x) us []) (I2.env0.make (He.ga X.K x) us []) hbb rr hq) fun r s' out => ?_
  cases r with
  | error er => exact hx pins σ _ _ er s' I2 out
  | ok fl =>
    cases fl with
    | ret u =>
      obtain ⟨v, H2, os2, bare2, un2, hok2, rv, ev, q2⟩ := out
      subst ev
      exact ⟨rv, .ref (hp.objs.size + 1), H2, I2.call' (ch := []) os2 un2 hok2 bare2 (fun b z => absurd z (by simp)), rfl, q2⟩
    | next => exact out.elim
    | brk => exact out.elim
    | cont => exact out.elim
/-- what the state knows of the error at a: tracked, or held by the suite -/
def ExKnown (H : Hp) (pn : List (Addr × Obj)) (C a : Addr) : Prop := (∃ d, H a = some (exo a C d) ∧ ∀ dd, d = some dd → ∃ fs, H dd = some (exd dd fs)) ∨
  ∃ oe, (a, oe) ∈ pn ∧ oe.cls = .ref C ∧ (∃ vs, oe.data = .fields vs) ∧ ∀ dd, oe.dict = some dd → ∃ fs, H dd = some (.xd fs)
/-- isinstance(e, c) -/
def rIsx (K : PySem.W.Frag) (mg : Str → Option Value) (pn : List (Addr × Obj)) : List V → Hp → VK → Prop := fun xs H Q => ∃ (a : Addr) (c : V) (cv : Value) (y z : Str) (gs : List Str) (r : Bool), xs = [.ref a, c] ∧ (∀ u, RelV c u → u = cv) ∧ ExF K mg y z gs ∧
  ExKnown H pn (He.ga K y) a ∧ PySem.W.kitOne K (.ref (He.ga K y)) cv = some r ∧ Q (.bl r) H
theorem call_isx (hn : PySem.W.specialIn X.K (.builtin "object.__class__") "__get__" = some (some (.builtin "getset_descriptor.__get__"))) (ht : PySem.W.takesIn X.K (.builtin "object.__class__") = some true) :
    CallR X (.builtin "isinstance") (rIsx X.K X.mg X.pn) := by
  intro pns s σ H xs us Q I r h
  obtain ⟨a, c, cv, y, z, gs, b, rfl, hcv, T, kn, e, q⟩ := h
  cases r with
  | cons rx rr =>
    cases rr with
    | cons rt rr =>
      cases rr
      cases rx
      have ec := hcv _ rt
      subst ec
      obtain ⟨oe, od, J⟩ : ∃ oe od, PySem.W.InstAt s.heap a oe (He.ga X.K y) od := by
        rcases kn with ⟨d, ea, hd⟩ | ⟨oe, hp, h1, ⟨vs, h2⟩, h3⟩
        · obtain ⟨t1, ho⟩ := exo_at I.hok ea
          cases d with
          | none => exact ⟨_, none, ⟨ho, rfl, rfl, trivial⟩⟩
          | some dd =>
            obtain ⟨f2, ed⟩ := hd dd rfl
            obtain ⟨mA, hns, _⟩ := exd_at I.hok ed
            obtain ⟨o2, ho2, _⟩ := lookIn_ns hns
            exact ⟨_, some o2, ⟨ho, rfl, rfl, ho2⟩⟩
        · obtain ⟨hget, _⟩ := I.pin (a, oe) (List.mem_append.mpr (.inl hp))
          obtain ⟨oc, dct, oda, osl⟩ := oe
          dsimp only at h1 h2 h3
          subst h1 h2
          cases dct with
          | none => exact ⟨_, none, ⟨hget, rfl, rfl, trivial⟩⟩
          | some dd =>
            obtain ⟨f2, ed⟩ := h3 dd rfl
            obtain ⟨mA, hns, _⟩ := (show ObjOk X.prog X.w H s.heap dd (.xd f2) from I.hok dd _ ed)
            obtain ⟨o2, ho2, _⟩ := lookIn_ns hns
            exact ⟨_, some o2, ⟨hget, rfl, rfl, ho2⟩⟩
      exact PySem.W.kia_one (PySem.W.kitx_exc T.cl T.ga T.gg T.exC T.ca hn ht T.mo) I.kIn J e (fun z => nomatch z) fun tk => ⟨.bl b, H, I.tok tk, rfl, q⟩
/-- e.f of a tracked error -/
def tXat (K : PySem.W.Frag) (mg : Str → Option Value) (f : Str) (te : TE) : TE := fun σ H Q => te σ H fun v H1 => ∃ (a d : Addr) (y z : Str) (gs : List Str) (fs : List (Str × V)) (u : V), v = .ref a ∧ ExF K mg y z gs ∧ f ∈ gs ∧
  H1 a = some (exo a (He.ga K y) (some d)) ∧ H1 d = some (exd d fs) ∧ fs.lookup f = some u ∧ Q u H1
theorem pe_xat (he : PE X e te) (hb : attributeBase e n X.env (eval e X.env) = eval e X.env := by rfl) : PE X (.Attribute e n pos) (tXat X.K X.mg n te) := by
  refine ⟨fun pins s σ H Q I h => ?_⟩
  refine attr_of hb (thn (he.run pins s σ H _ I h) fun u s1 hh => ?_)
  obtain ⟨v, H1, I1, rv, a, d, y, z, gs, fs, w, rfl, T, hf, ea, ed, l, q⟩ := hh
  cases rv
  obtain ⟨t1, ho⟩ := exo_at I1.hok ea
  obtain ⟨mA, hns, hr⟩ := exd_at I1.hok ed
  obtain ⟨od, hod, hl⟩ := lookIn_ns hns
  obtain ⟨uw, hu, ru⟩ := RelO.some_of (v := w) (o := mA n) (by rw [← l]; exact hr n)
  have J : PySem.W.InstAt s1.heap a _ (He.ga X.K y) (some od) := ⟨ho, rfl, rfl, hod⟩
  exact HandSPX.exc_get I1.kIn J T.ga T.gg T.exC (PySem.W.findObj_own T.dict (T.no n hf) rfl (by rw [hl, hu])) (handed_of ru) ⟨w, H1, I1.tok _, ru, q⟩
end
end My

namespace My
open PySem PySem.Spec PyProof.Rows L2
/-! ### the __init__ of an error -/
def spIni (C : Addr) (fs : List Str) : Sp := fun vs H Q _ => ∃ (a : Addr) (ys : List V), vs = .ref a :: ys ∧ ys.length = fs.length ∧ H a = some (exo a C none) ∧
  ∀ d H', H d = none → d ≠ a → H' a = some (exo a C (some d)) → H' d = some (exd d (fs.zip ys).reverse) → (∀ b o, b ≠ a → H b = some o → H' b = some o) → Q .non H'
/-- the def __init__ of the class x, as it stands -/
def AtI (K : PySem.W.Frag) (x q : Str) (st : Stmt) : Prop := ∃ fd, FunD K "__init__" q (defArgs st) (defBody st) (defScope st) [] [] (He.ma K (He.ga K x) "__init__") fd
def KeepsI (P : Program) (w : World) (K : PySem.W.Frag) (mg : Str → Option Value) (base : Heap) (x : Str) (fs : List Str) : Prop :=
  ∃ fd, FnOk P w K mg base CX0 1 (He.ma K (He.ga K x) "__init__") fd ("self" :: fs) (spIni (He.ga K x) fs) ∧ Binds K fd ("self" :: fs) []
section
variable {P : Program} {w : World} {K : PySem.W.Frag} {mg : Str → Option Value} {base : Heap}
abbrev bindsI (st : Stmt) (q : Str) (ps : List Str) : Prop := ∀ (kV doc pm : Value) (an : Option Addr) (cdv ct : Value) (us : List Value), us.length = ps.length → bindArgs (PySem.W.fnOf "__init__" q (defArgs st) (defBody st) (defScope st) .none kV doc pm an cdv ct) ⟨us, []⟩ = pure (ps.zip us)
theorem ini_of {x q : Str} {st : Stmt} {fs : List Str} (F : AtI K x q st) (S : FnScope ("self" :: fs) ("self" :: fs) (defScope st)) (hb : bindsI st q ("self" :: fs))
    (hbody : ∀ (fd : FuncData) (cdv : Value) (A : Around) (outer : List Env) (s : Shared) (H : Hp) (vs : List V) (Q : VK) (E : XK), spIni (He.ga K x) fs vs H Q E →
      ∃ t, PSs (cxOf CX0 P w K mg base ("self" :: fs) q (defScope st) (He.ma K (He.ga K x) "__init__") cdv A outer s H E).nox (defBody st) t ∧ t { nx := fun _ H' => Q .non H', rt := Q } (start ("self" :: fs) vs) H) :
    KeepsI P w K mg base x fs := by
  obtain ⟨fd, F⟩ := F
  refine ⟨fd, F.ok S (fun vs H Q E h => ?_) (fun cdv A outer s H vs Q E hr h => ?_), F.bindsN hb⟩
  · obtain ⟨a, ys, rfl, hl, _⟩ := h
    simp only [List.length_cons, hl]
  · obtain ⟨t, h1, h2⟩ := hbody fd cdv A outer s H vs Q E h
    exact ⟨t, h1.nox, h2⟩
theorem one_of {ys : List V} (h : ys.length = 1) : ∃ y, ys = [y] := match ys, h with | [y], _ => ⟨y, rfl⟩
theorem two_of {ys : List V} (h : ys.length = 2) : ∃ y z, ys = [y, z] := match ys, h with | [y, z], _ => ⟨y, z, rfl⟩
theorem three_of {ys : List V} (h : ys.length = 3) : ∃ y z u, ys = [y, z, u] := match ys, h with | [y, z, u], _ => ⟨y, z, u, rfl⟩
theorem ki_TooLong (F : AtI K "TooLong" "TooLong.__init__" (inClass (top 8) 0)) (T : ExF K mg "TooLong" "BookError" ["most"]) : KeepsI P w K mg base "TooLong" ["most"] := by
  refine ini_of F ⟨rfl, rfl, rfl, by decide +kernel, rfl, by decide +kernel, by decide +kernel⟩ (fun _ _ _ _ _ _ us hl => match us, hl with | [_, _], _ => rfl) (fun fd cdv A outer s H vs Q E h => ?_)
  obtain ⟨a, ys, rfl, hl, ha, k⟩ := h
  obtain ⟨y, rfl⟩ := one_of hl
  refine ⟨_, pss_one (ps_ost (pv 0) (pv 1)), ?_⟩
  refine ⟨_, rfl, _, rfl, a, _, rfl, T.ox, T.no _ (by decide), .inl ⟨ha, fun d hd hne => ?_⟩⟩
  refine k d _ hd hne upd_same ?_ fun b o hb e => ?_
  · rw [upd_ne hne, upd_same]
    rfl
  · rw [upd_ne hb, upd_ne (ne_of_none e hd)]
    exact e
end
end My
set_option Elab.async false
set_option linter.all false
set_option maxRecDepth 100000
set_option maxHeartbeats 8000000
namespace My
open PySem PySem.Spec PyProof.Rows L2
local macro_rules | `(tactic| walk_at "lv") => `(tactic| first | exact Or.inl rfl | exact Or.inr rfl)
/-! ### the class Lot -/
def lotF (lo hi m : Int) (a b c : Addr) : List (Str × V) := putF "downs" (.ref c) (putF "ups" (.ref b) (putF "modulus" (.int m) (putF "inside" (.ref a) (putF "high" (.int hi) (putF "low" (.int lo) [])))))
section
variable {lo hi m : Int} {a b c : Addr}
theorem lf_low : (lotF lo hi m a b c).lookup ("low" : Str) = some (.int lo) := by
  unfold lotF
  rw [lookup_putF, if_neg (by decide +kernel), lookup_putF, if_neg (by decide +kernel), lookup_putF, if_neg (by decide +kernel), lookup_putF, if_neg (by decide +kernel), lookup_putF, if_neg (by decide +kernel), lookup_putF, if_pos rfl]
theorem lf_high : (lotF lo hi m a b c).lookup ("high" : Str) = some (.int hi) := by
  unfold lotF
  rw [lookup_putF, if_neg (by decide +kernel), lookup_putF, if_neg (by decide +kernel), lookup_putF, if_neg (by decide +kernel), lookup_putF, if_neg (by decide +kernel), lookup_putF, if_pos rfl]
theorem lf_inside : (lotF lo hi m a b c).lookup ("inside" : Str) = some (.ref a) := by
  unfold lotF
  rw [lookup_putF, if_neg (by decide +kernel), lookup_putF, if_neg (by decide +kernel), lookup_putF, if_neg (by decide +kernel), lookup_putF, if_pos rfl]
theorem lf_modulus : (lotF lo hi m a b c).lookup ("modulus" : Str) = some (.int m) := by
  unfold lotF
  rw [lookup_putF, if_neg (by decide +kernel), lookup_putF, if_neg (by decide +kernel), lookup_putF, if_pos rfl]
theorem lf_ups : (lotF lo hi m a b c).lookup ("ups" : Str) = some (.ref b) := by
  unfold lotF
  rw [lookup_putF, if_neg (by decide +kernel), lookup_putF, if_pos rfl]
theorem lf_downs : (lotF lo hi m a b c).lookup ("downs" : Str) = some (.ref c) := by
  unfold lotF
  rw [lookup_putF, if_pos rfl]
end
/-- a Lot stands at p -/
def LotAt (C : Addr) (H : Hp) (p : Addr) (lo hi : Int) (ins : List Int) (m : Nat) (us ds : List Int) : Prop :=
  ∃ dx a b c, H p = some (.ins C dx (lotF lo hi m a b c)) ∧ H a = some (.tup (ins.map V.int)) ∧ H b = some (.tup (us.map V.int)) ∧ H c = some (.tup (ds.map V.int))
theorem LotAt.same {C : Addr} {H H' : Hp} {p : Addr} {lo hi : Int} {ins us ds : List Int} {m : Nat} (s : Same H H') (h : LotAt C H p lo hi ins m us ds) : LotAt C H' p lo hi ins m us ds := by
  obtain ⟨dx, a, b, c, h1, h2, h3, h4⟩ := h
  exact ⟨dx, a, b, c, s _ _ h1, s _ _ h2, s _ _ h3, s _ _ h4⟩
structure LotTxt (K : PySem.W.Frag) (mg : Str → Option Value) (C : Addr) : Prop where
  cl : Cls K C
  n1 : NoAttr K C "low"
  n2 : NoAttr K C "high"
  n3 : NoAttr K C "inside"
  n4 : NoAttr K C "modulus"
  n5 : NoAttr K C "ups"
  n6 : NoAttr K C "downs"
  mgC : mg "Lot" = some (.ref C)
  (ha : PySem.W.findIn K (.ref C) "__class__" = some (some (.builtin "object.__class__"))) (hn : PySem.W.specialIn K (.builtin "object.__class__") "__get__" = some (some (.builtin "getset_descriptor.__get__")))
  (ht : PySem.W.takesIn K (.builtin "object.__class__") = some true) (hm : PySem.W.mroIn K C (.type "object") = some true)
  notStr : PySem.W.kitOne K (.ref C) (.type "str") = some false
  isLot : PySem.W.kitOne K (.ref C) (.ref C) = some true
/-- a def of the class at C, as it stands -/
def AtM (K : PySem.W.Frag) (C : Addr) (g : Addr) (nm q : Str) (st : Stmt) : Prop := ∃ fd, FunD K nm q (defArgs st) (defBody st) (defScope st) [] [] g fd
def KeepsM (P : Program) (w : World) (K : PySem.W.Frag) (mg : Str → Option Value) (base : Heap) (g : Addr) (k : Nat) (ps : List Str) (sp : Sp) : Prop :=
  ∃ fd, FnOk P w K mg base CX0 k g fd ps sp ∧ Binds K fd ps []
section
variable {P : Program} {w : World} {K : PySem.W.Frag} {mg : Str → Option Value} {base : Heap}
abbrev bindsM (st : Stmt) (nm q : Str) (ps : List Str) : Prop := ∀ (kV doc pm : Value) (an : Option Addr) (cdv ct : Value) (us : List Value), us.length = ps.length → bindArgs (PySem.W.fnOf nm q (defArgs st) (defBody st) (defScope st) .none kV doc pm an cdv ct) ⟨us, []⟩ = pure (ps.zip us)
theorem keepsM_of {C g : Addr} {nm q : Str} {st : Stmt} {N ps : List Str} {k : Nat} {sp : Sp} (F : AtM K C g nm q st) (S : FnScope N ps (defScope st)) (hb : bindsM st nm q ps) (len : ∀ vs H Q E, sp vs H Q E → vs.length = ps.length)
    (hbody : ∀ (cdv : Value) (A : Around) (outer : List Env) (s : Shared) (H : Hp) (vs : List V) (Q : VK) (E : XK), Room k (A.deeper (envOfC q (defScope st) s.heap.objs.size g cdv)) → sp vs H Q E →
      ∃ t, PSs (cxOf CX0 P w K mg base N q (defScope st) g cdv A outer s H E).nox (defBody st) t ∧ t { nx := fun _ H' => Q .non H', rt := Q } (start N vs) H) : KeepsM P w K mg base g (k + 1) ps sp := by
  obtain ⟨fd, F⟩ := F
  refine ⟨fd, F.ok S len (fun cdv A outer s H vs Q E hr h => ?_), F.bindsN hb⟩
  obtain ⟨t, h1, h2⟩ := hbody cdv A outer s H vs Q E hr h
  exact ⟨t, h1.nox, h2⟩
/-! ### Lot.__init__ -/
def spLotI (C : Addr) : Sp := fun vs H Q _ => ∃ (p dx a b c : Addr) (lo hi : Int) (m : Nat) (ins us ds : List Int), vs = [.ref p, .int lo, .int hi, .ref a, .int m, .ref b, .ref c] ∧ H p = some (.ins C dx []) ∧
  H a = some (.lst (ins.map V.int)) ∧ H b = some (.lst (us.map V.int)) ∧ H c = some (.lst (ds.map V.int)) ∧
  ∀ H', LotAt C H' p lo hi ins m us ds → (∀ x o, x ≠ p → H x = some o → H' x = some o) → Q .non H'
abbrev s_lotI : Stmt := inClass (top 14) 0
abbrev N_lotI : List Str := ["self", "low", "high", "inside", "modulus", "ups", "downs"]
theorem sc_lotI : FnScope N_lotI ["self", "low", "high", "inside", "modulus", "ups", "downs"] (defScope s_lotI) := ⟨rfl, rfl, rfl, by decide +kernel, rfl, by decide +kernel, by decide +kernel⟩
theorem putF_small {f : Str} {v : V} {fs : List (Str × V)} {n : Nat} (h : fs.length ≤ n) : (putF f v fs).length ≤ n + 1 := Nat.le_trans (length_putF f v fs) (by omega)
theorem kp_lotI {C g : Addr} (F : AtM K C g "__init__" "Lot.__init__" s_lotI) (T : LotTxt K mg C) (N : Nb mg) : KeepsM P w K mg base g 1 ["self", "low", "high", "inside", "modulus", "ups", "downs"] (spLotI C) := by
  refine keepsM_of F sc_lotI (fun _ _ _ _ _ _ us hl => match us, hl with | [_, _, _, _, _, _, _], _ => rfl) (fun vs H Q E h => ?_) (fun cdv A outer s H vs Q E hr h => ?_)
  · obtain ⟨p, dx, a, b, c, lo, hi, m, ins, us, ds, rfl, _⟩ := h
    rfl
  · obtain ⟨p, dx, a, b, c, lo, hi, m, ins, us, ds, rfl, hp, ha, hb, hc, k⟩ := h
    refine ⟨_, (pss_cons (ps_fld (pv 0) (pv 1) rfl)
        (pss_cons (ps_fld (pv 0) (pv 2) rfl)
        (pss_cons (ps_fld (pv 0) (pe_callTy call_tuple_of (by rfl) N.tuple (by decide +kernel) (pa_cons (pv 3) pa_nil)) rfl)
        (pss_cons (ps_fld (pv 0) (pv 4) rfl)
        (pss_cons (ps_fld (pv 0) (pe_callTy call_tuple_of (by rfl) N.tuple (by decide +kernel) (pa_cons (pv 5) pa_nil)) rfl)
        (pss_one (ps_fld (pv 0) (pe_callTy call_tuple_of (by rfl) N.tuple (by decide +kernel) (pa_cons (pv 6) pa_nil)) rfl))))))), ?_⟩
    have pa : a ≠ p := ne_of ha hp (by intro z; cases z)
    have pb : b ≠ p := ne_of hb hp (by intro z; cases z)
    have pc : c ≠ p := ne_of hc hp (by intro z; cases z)
    have f1 : (putF "low" (V.int lo) []).length ≤ 1 := putF_small (Nat.le_refl 0)
    have f2 := putF_small (f := "high") (v := V.int hi) f1
    refine ⟨_, rfl, _, rfl, p, C, dx, _, rfl, hp, T.cl, T.n1, (by show 0 < 1000; decide), ?_⟩
    refine ⟨_, rfl, _, rfl, p, C, dx, _, rfl, upd_same, T.cl, T.n2, (by omega), ?_⟩
    refine ⟨_, rfl, a, _, rfl, .inl ⟨SqL.of (by rw [upd_ne pa, upd_ne pa]; exact ha), fun l1 hl1 => ?_⟩⟩
    have pl1 : p ≠ l1 := ne_of_none upd_same hl1
    have f3 := putF_small (f := "inside") (v := V.ref l1) f2
    have f4 := putF_small (f := "modulus") (v := V.int m) f3
    refine ⟨_, rfl, p, C, dx, _, rfl, (by rw [upd_ne pl1]; exact upd_same), T.cl, T.n3, (by omega), ?_⟩
    refine ⟨_, rfl, _, rfl, p, C, dx, _, rfl, upd_same, T.cl, T.n4, (by omega), ?_⟩
    have bl1 : b ≠ l1 := ne_of_none (by rw [upd_ne pb, upd_ne pb]; exact hb) hl1
    have cl1 : c ≠ l1 := ne_of_none (by rw [upd_ne pc, upd_ne pc]; exact hc) hl1
    refine ⟨_, rfl, b, _, rfl, .inl ⟨SqL.of (by rw [upd_ne pb, upd_ne pb, upd_ne bl1, upd_ne pb, upd_ne pb]; exact hb), fun l2 hl2 => ?_⟩⟩
    have pl2 : p ≠ l2 := ne_of_none upd_same hl2
    have l12 : l1 ≠ l2 := ne_of_none (by rw [upd_ne pl1.symm, upd_ne pl1.symm]; exact upd_same) hl2
    have cl2 : c ≠ l2 := ne_of_none (by rw [upd_ne pc, upd_ne pc, upd_ne cl1, upd_ne pc, upd_ne pc]; exact hc) hl2
    have f5 := putF_small (f := "ups") (v := V.ref l2) f4
    refine ⟨_, rfl, p, C, dx, _, rfl, (by rw [upd_ne pl2]; exact upd_same), T.cl, T.n5, (by omega), ?_⟩
    refine ⟨_, rfl, c, _, rfl, .inl ⟨SqL.of (by rw [upd_ne pc, upd_ne cl2, upd_ne pc, upd_ne pc, upd_ne cl1, upd_ne pc, upd_ne pc]; exact hc), fun l3 hl3 => ?_⟩⟩
    have pl3 : p ≠ l3 := ne_of_none upd_same hl3
    have l13 : l1 ≠ l3 := ne_of_none (by rw [upd_ne pl1.symm, upd_ne l12, upd_ne pl1.symm, upd_ne pl1.symm]; exact upd_same) hl3
    have l23 : l2 ≠ l3 := ne_of_none (by rw [upd_ne pl2.symm]; exact upd_same) hl3
    refine ⟨_, rfl, p, C, dx, _, rfl, (by rw [upd_ne pl3]; exact upd_same), T.cl, T.n6, (by omega), ?_⟩
    refine k _ ⟨dx, l1, l2, l3, upd_same, ?_, ?_, ?_⟩ fun x o hx e => ?_
    · rw [upd_ne pl1.symm, upd_ne l13, upd_ne pl1.symm, upd_ne l12, upd_ne pl1.symm, upd_ne pl1.symm]; exact upd_same
    · rw [upd_ne pl2.symm, upd_ne l23, upd_ne pl2.symm]; exact upd_same
    · rw [upd_ne pl3.symm]; exact upd_same
    · have x1 : x ≠ l1 := ne_of_none (by rw [upd_ne hx, upd_ne hx]; exact e) hl1
      have x2 : x ≠ l2 := ne_of_none (by rw [upd_ne hx, upd_ne hx, upd_ne x1, upd_ne hx, upd_ne hx]; exact e) hl2
      have x3 : x ≠ l3 := ne_of_none (by rw [upd_ne hx, upd_ne x2, upd_ne hx, upd_ne hx, upd_ne x1, upd_ne hx, upd_ne hx]; exact e) hl3
      rw [upd_ne hx, upd_ne x3, upd_ne hx, upd_ne x2, upd_ne hx, upd_ne hx, upd_ne x1, upd_ne hx, upd_ne hx]; exact e
end
end My
set_option Elab.async false
set_option linter.all false
set_option maxRecDepth 100000
set_option maxHeartbeats 8000000
namespace My
open PySem PySem.Spec PyProof.Rows L2
local macro_rules | `(tactic| walk_at "lv") => `(tactic| first | exact Or.inl rfl | exact Or.inr rfl)
/-! ### data of ints and bools -/
theorem dp_ints {K : PySem.W.Frag} {H : Hp} : ∀ ns : List Int, DpAll K H (ns.map V.int) (ns.map PyData.int)
  | [] => .nil
  | n :: r => .cons (.int n) (dp_ints r)
theorem lay_ints : ∀ ns : List Int, PyData.canLayAll0 (ns.map PyData.int) = true ∧ PyData.depthAll (ns.map PyData.int) = 0
  | [] => ⟨rfl, rfl⟩
  | n :: r => by
    obtain ⟨h1, h2⟩ := lay_ints r
    exact ⟨by show (_ && _) = true; rw [h1]; rfl, by show max _ _ = 0; rw [h2]; rfl⟩
theorem eqv_ints : ∀ ns ms : List Int, PyData.eqvAll (ns.map PyData.int) (ms.map PyData.int) = decide (ns = ms)
  | [], [] => by simp [PyData.eqvAll]
  | [], _ :: _ => by simp [PyData.eqvAll]
  | _ :: _, [] => by simp [PyData.eqvAll]
  | n :: r, m :: t => by
    show (PyData.eqv (.int n) (.int m) && PyData.eqvAll (r.map PyData.int) (t.map PyData.int)) = _
    rw [eqv_ints r t]
    show ((n == m) && _) = _
    by_cases h : n = m
    · subst h; simp
    · simp [h]
theorem dp_bls {K : PySem.W.Frag} {H : Hp} : ∀ ns : List Bool, DpAll K H (ns.map V.bl) (ns.map PyData.bool)
  | [] => .nil
  | n :: r => .cons (.bl n) (dp_bls r)
theorem lay_bls : ∀ ns : List Bool, PyData.canLayAll0 (ns.map PyData.bool) = true ∧ PyData.depthAll (ns.map PyData.bool) = 0
  | [] => ⟨rfl, rfl⟩
  | n :: r => by
    obtain ⟨h1, h2⟩ := lay_bls r
    exact ⟨by show (_ && _) = true; rw [h1]; rfl, by show max _ _ = 0; rw [h2]; rfl⟩
theorem eqv_bls : ∀ ns ms : List Bool, PyData.eqvAll (ns.map PyData.bool) (ms.map PyData.bool) = decide (ns = ms)
  | [], [] => by simp [PyData.eqvAll]
  | [], _ :: _ => by simp [PyData.eqvAll]
  | _ :: _, [] => by simp [PyData.eqvAll]
  | n :: r, m :: t => by
    show (PyData.eqv (.bool n) (.bool m) && PyData.eqvAll (r.map PyData.bool) (t.map PyData.bool)) = _
    rw [eqv_bls r t]
    show ((n == m) && _) = _
    by_cases h : n = m
    · subst h; simp
    · simp [h]
theorem shp_tup {ds : List PyData} {n : Nat} (h : PyData.canLayAll0 ds = true) (h2 : PyData.depthAll ds = n) (hn : n ≤ 63) : SeqAt.shaped (.tuple ds) = true := by
  show (_ && _) = true
  refine Bool.and_eq_true_iff.mpr ⟨h, decide_eq_true ?_⟩
  show PyData.depthAll ds + 1 ≤ 64
  omega
theorem shp_lst {ds : List PyData} {n : Nat} (h : PyData.canLayAll0 ds = true) (h2 : PyData.depthAll ds = n) (hn : n ≤ 63) : SeqAt.shaped (.list ds) = true := by
  show (_ && _) = true
  refine Bool.and_eq_true_iff.mpr ⟨h, decide_eq_true ?_⟩
  show PyData.depthAll ds + 1 ≤ 64
  omega
theorem shp_ti (ns : List Int) : SeqAt.shaped (.tuple (ns.map PyData.int)) = true := shp_tup (lay_ints ns).1 (lay_ints ns).2 (by decide)
theorem inV_ints (n : Int) : ∀ ns : List Int, inV (.int n) (ns.map V.int) = decide (n ∈ ns)
  | [] => by simp [inV]
  | m :: r => by
    show ((m == n) || inV (.int n) (r.map V.int)) = _
    rw [inV_ints n r]
    by_cases h : m = n
    · subst h; simp
    · have : ¬ n = m := fun z => h z.symm
      simp [h, this]
theorem flat_ints : ∀ ns : List Int, (ns.map V.int).all flatV = true
  | [] => rfl
  | n :: r => by
    show (_ && _) = true
    rw [flat_ints r]; rfl
theorem vdec (a b : Int) : decide (V.int a = V.int b) = decide (a = b) := by
  by_cases h : a = b
  · subst h; simp
  · simp [h]
theorem eqv_ti (a b : List Int) : PyData.eqv (.tuple (a.map PyData.int)) (.tuple (b.map PyData.int)) = decide (a = b) := eqv_ints a b
section
variable {P : Program} {w : World} {K : PySem.W.Frag} {mg : Str → Option Value} {base : Heap}
/-! ### Lot.__contains__ -/
def lotHas (lo hi : Int) (ins : List Int) (m : Nat) (us ds : List Int) (n : Int) : Bool := if hi < n then decide (n % (m : Int) ∈ us) else if n < lo then decide (n % (m : Int) ∈ ds) else decide (n ∈ ins)
def spLotC (C : Addr) : Sp := fun vs H Q _ => ∃ (p : Addr) (n lo hi : Int) (m : Nat) (ins us ds : List Int), vs = [.ref p, .int n] ∧ LotAt C H p lo hi ins m us ds ∧ 0 < m ∧ Q (.bl (lotHas lo hi ins m us ds n)) H
abbrev s_lotC : Stmt := inClass (top 14) 2
abbrev N_lotC : List Str := ["self", "number"]
theorem sc_lotC : FnScope N_lotC ["self", "number"] (defScope s_lotC) := ⟨rfl, rfl, rfl, by decide +kernel, rfl, by decide +kernel, by decide +kernel⟩
theorem kp_lotC {C g : Addr} (F : AtM K C g "__contains__" "Lot.__contains__" s_lotC) (T : LotTxt K mg C) : KeepsM P w K mg base g 1 ["self", "number"] (spLotC C) := by
  refine keepsM_of F sc_lotC (fun _ _ _ _ _ _ us hl => match us, hl with | [_, _], _ => rfl) (fun vs H Q E h => ?_) (fun cdv A outer s H vs Q E hr h => ?_)
  · obtain ⟨p, n, lo, hi, m, ins, us, ds, rfl, _⟩ := h
    rfl
  · obtain ⟨p, n, lo, hi, m, ins, us, ds, rfl, ⟨dx, a, b, c, hp, ha, hb, hc⟩, hm, k⟩ := h
    have hm' : (0 : Int) < (m : Int) := by omega
    refine ⟨_, (pss_cons (ps_if (pt_cmpR op_gt (pv 1) (pe_fld (pv 0) rfl) (nomark _)) (pss_one (ps_ret (pe_cmpR op_in_seq (pe_op op_mod (pv 1) (pe_fld (pv 0) rfl)) (pe_fld (pv 0) rfl) (by rfl)))) pss_nil)
        (pss_cons (ps_if (pt_cmpR op_lt (pv 1) (pe_fld (pv 0) rfl) (nomark _)) (pss_one (ps_ret (pe_cmpR op_in_seq (pe_op op_mod (pv 1) (pe_fld (pv 0) rfl)) (pe_fld (pv 0) rfl) (by rfl)))) pss_nil)
        (pss_one (ps_ret (pe_cmpR op_in_seq (pv 1) (pe_fld (pv 0) rfl) (by rfl)))))), ?_⟩
    unfold lotHas at k
    refine ⟨_, rfl, _, rfl, p, C, dx, _, _, rfl, hp, T.cl, T.n2, lf_high, _, _, rfl, rfl, _, rfl, ?_⟩
    refine ite2 (fun h1 => ?_) (fun h1 => ?_)
    · have h1 := of_decide_eq_true h1
      rw [if_pos h1] at k
      refine ⟨_, rfl, _, rfl, p, C, dx, _, _, rfl, hp, T.cl, T.n4, lf_modulus, _, _, rfl, rfl, hm', ?_⟩
      refine ⟨_, rfl, p, C, dx, _, _, rfl, hp, T.cl, T.n5, lf_ups, b, _, rfl, .inr (SqT.of hb), rfl, flat_ints _, ?_⟩
      show Q (.bl (inV _ _)) _
      rw [inV_ints]
      exact k
    · have h1 : ¬ hi < n := fun z => h1 (decide_eq_true z)
      rw [if_neg h1] at k
      refine ⟨_, rfl, _, rfl, p, C, dx, _, _, rfl, hp, T.cl, T.n1, lf_low, _, _, rfl, rfl, _, rfl, ?_⟩
      refine ite2 (fun h2 => ?_) (fun h2 => ?_)
      · have h2 := of_decide_eq_true h2
        rw [if_pos h2] at k
        refine ⟨_, rfl, _, rfl, p, C, dx, _, _, rfl, hp, T.cl, T.n4, lf_modulus, _, _, rfl, rfl, hm', ?_⟩
        refine ⟨_, rfl, p, C, dx, _, _, rfl, hp, T.cl, T.n6, lf_downs, c, _, rfl, .inr (SqT.of hc), rfl, flat_ints _, ?_⟩
        show Q (.bl (inV _ _)) _
        rw [inV_ints]
        exact k
      · have h2 : ¬ n < lo := fun z => h2 (decide_eq_true z)
        rw [if_neg h2] at k
        refine ⟨_, rfl, _, rfl, p, C, dx, _, _, rfl, hp, T.cl, T.n3, lf_inside, a, _, rfl, .inr (SqT.of ha), rfl, flat_ints _, ?_⟩
        show Q (.bl (inV _ _)) _
        rw [inV_ints]
        exact k
/-! ### Lot.__eq__ -/
def lotEq (lo hi : Int) (ins : List Int) (m : Int) (us ds : List Int) (lo' hi' : Int) (ins' : List Int) (m' : Int) (us' ds' : List Int) : Bool :=
  decide (lo = lo') && (decide (hi = hi') && (decide (ins = ins') && (decide (m = m') && (decide (us = us') && decide (ds = ds')))))
def spLotE (C : Addr) : Sp := fun vs H Q _ => ∃ (p q : Addr) (lo hi lo' hi' : Int) (m m' : Nat) (ins us ds ins' us' ds' : List Int), vs = [.ref p, .ref q] ∧ LotAt C H p lo hi ins m us ds ∧ LotAt C H q lo' hi' ins' m' us' ds' ∧
  Q (.bl (lotEq lo hi ins m us ds lo' hi' ins' m' us' ds')) H
abbrev s_lotE : Stmt := inClass (top 14) 1
abbrev N_lotE : List Str := ["self", "other"]
theorem sc_lotE : FnScope N_lotE ["self", "other"] (defScope s_lotE) := ⟨rfl, rfl, rfl, by decide +kernel, rfl, by decide +kernel, by decide +kernel⟩
theorem kp_lotE {C g : Addr} (F : AtM K C g "__eq__" "Lot.__eq__" s_lotE) (T : LotTxt K mg C) (N : Nb mg) : KeepsM P w K mg base g 1 ["self", "other"] (spLotE C) := by
  refine keepsM_of F sc_lotE (fun _ _ _ _ _ _ us hl => match us, hl with | [_, _], _ => rfl) (fun vs H Q E h => ?_) (fun cdv A outer s H vs Q E hr h => ?_)
  · obtain ⟨p, q, lo, hi, lo', hi', m, m', ins, us, ds, ins', us', ds', rfl, _⟩ := h
    rfl
  · obtain ⟨p, q, lo, hi, lo', hi', m, m', ins, us, ds, ins', us', ds', rfl, ⟨dx, a, b, c, hp, ha, hb, hc⟩, ⟨dx', a', b', c', hp', ha', hb', hc'⟩, k⟩ := h
    refine ⟨_, (pss_one (ps_ret (pe_and (pe_callB call_isi (by rfl) N.isinstance boot_isinstance (pa_cons (pv 1) (pa_cons (pe_glob (v := .ref C) (by rfl) T.mgC rfl) pa_nil))) (pe_and (pe_cmpR op_eq (pe_fld (pv 0) rfl) (pe_fld (pv 1) rfl) (nomark _)) (pe_and (pe_cmpR op_eq (pe_fld (pv 0) rfl) (pe_fld (pv 1) rfl) (nomark _)) (pe_and (pe_cmpR (op_eqD hr.units) (pe_fld (pv 0) rfl) (pe_fld (pv 1) rfl) (nomark _)) (pe_and (pe_cmpR op_eq (pe_fld (pv 0) rfl) (pe_fld (pv 1) rfl) (nomark _)) (pe_and (pe_cmpR (op_eqD hr.units) (pe_fld (pv 0) rfl) (pe_fld (pv 1) rfl) (nomark _)) (pe_one (pe_cmpR (op_eqD hr.units) (pe_fld (pv 0) rfl) (pe_fld (pv 1) rfl) (nomark _))))))))))), ?_⟩
    unfold lotEq at k
    refine ⟨_, rfl, .ref q, .ref C, _, _, true, rfl, .own C, .base (.ins hp' T.cl T.ha T.hn T.ht T.hm), T.isLot, _, rfl, ?_⟩
    refine ⟨_, rfl, p, C, dx, _, _, rfl, hp, T.cl, T.n1, lf_low, _, rfl, q, C, dx', _, _, rfl, hp', T.cl, T.n1, lf_low, rfl, _, rfl, ?_⟩
    rw [vdec]
    cases e : decide (lo = lo') with
    | false => rw [e] at k; exact iteF k
    | true =>
    rw [e] at k
    refine iteT ⟨_, rfl, p, C, dx, _, _, rfl, hp, T.cl, T.n2, lf_high, _, rfl, q, C, dx', _, _, rfl, hp', T.cl, T.n2, lf_high, rfl, _, rfl, ?_⟩
    rw [vdec]
    cases e : decide (hi = hi') with
    | false => rw [e] at k; exact iteF k
    | true =>
    rw [e] at k
    refine iteT ⟨_, rfl, p, C, dx, _, _, rfl, hp, T.cl, T.n3, lf_inside, _, rfl, q, C, dx', _, _, rfl, hp', T.cl, T.n3, lf_inside, _, _, .tup (SqT.of ha) (dp_ints ins), .tup (SqT.of ha') (dp_ints ins'), shp_ti _, shp_ti _, _, rfl, ?_⟩
    rw [eqv_ti]
    cases e : decide (ins = ins') with
    | false => rw [e] at k; exact iteF k
    | true =>
    rw [e] at k
    refine iteT ⟨_, rfl, p, C, dx, _, _, rfl, hp, T.cl, T.n4, lf_modulus, _, rfl, q, C, dx', _, _, rfl, hp', T.cl, T.n4, lf_modulus, rfl, _, rfl, ?_⟩
    rw [vdec]
    cases e : decide ((m : Int) = m') with
    | false => rw [e] at k; exact iteF k
    | true =>
    rw [e] at k
    refine iteT ⟨_, rfl, p, C, dx, _, _, rfl, hp, T.cl, T.n5, lf_ups, _, rfl, q, C, dx', _, _, rfl, hp', T.cl, T.n5, lf_ups, _, _, .tup (SqT.of hb) (dp_ints us), .tup (SqT.of hb') (dp_ints us'), shp_ti _, shp_ti _, _, rfl, ?_⟩
    rw [eqv_ti]
    cases e : decide (us = us') with
    | false => rw [e] at k; exact iteF k
    | true =>
    rw [e] at k
    refine iteT ⟨_, rfl, p, C, dx, _, _, rfl, hp, T.cl, T.n6, lf_downs, _, rfl, q, C, dx', _, _, rfl, hp', T.cl, T.n6, lf_downs, _, _, .tup (SqT.of hc) (dp_ints ds), .tup (SqT.of hc') (dp_ints ds'), shp_ti _, shp_ti _, ?_⟩
    show Q (.bl (PyData.eqv _ _)) _
    rw [eqv_ti]
    exact k
/-! ### Lot.bare -/
def spLotB (C : Addr) : Sp := fun vs H Q _ => ∃ (p : Addr) (lo hi : Int) (m : Nat) (ins us ds : List Int), vs = [.ref p] ∧ LotAt C H p lo hi ins m us ds ∧ Q (.bl (ins.isEmpty && (us.isEmpty && ds.isEmpty))) H
abbrev s_lotB : Stmt := inClass (top 14) 3
theorem sc_lotB : FnScope ["self"] ["self"] (defScope s_lotB) := ⟨rfl, rfl, rfl, by decide +kernel, rfl, by decide +kernel, by decide +kernel⟩
theorem kp_lotB {C g : Addr} (F : AtM K C g "bare" "Lot.bare" s_lotB) (T : LotTxt K mg C) : KeepsM P w K mg base g 1 ["self"] (spLotB C) := by
  refine keepsM_of F sc_lotB (fun _ _ _ _ _ _ us hl => match us, hl with | [_], _ => rfl) (fun vs H Q E h => ?_) (fun cdv A outer s H vs Q E hr h => ?_)
  · obtain ⟨p, lo, hi, m, ins, us, ds, rfl, _⟩ := h
    rfl
  · obtain ⟨p, lo, hi, m, ins, us, ds, rfl, ⟨dx, a, b, c, hp, ha, hb, hc⟩, k⟩ := h
    refine ⟨_, (pss_one (ps_ret (pe_and (pe_notT (pe_fld (pv 0) rfl)) (pe_and (pe_notT (pe_fld (pv 0) rfl)) (pe_one (pe_notT (pe_fld (pv 0) rfl))))))), ?_⟩
    have ne : ∀ ns : List Int, (!(!(ns.map V.int).isEmpty)) = ns.isEmpty := fun ns => by cases ns <;> rfl
    refine ⟨_, rfl, p, C, dx, _, _, rfl, hp, T.cl, T.n3, lf_inside, _, .inr (.inl ⟨_, SqT.of ha, rfl⟩), _, rfl, ?_⟩
    rw [ne]
    cases e : ins.isEmpty with
    | false => rw [e] at k; exact iteF k
    | true =>
    rw [e] at k
    refine iteT ⟨_, rfl, p, C, dx, _, _, rfl, hp, T.cl, T.n5, lf_ups, _, .inr (.inl ⟨_, SqT.of hb, rfl⟩), _, rfl, ?_⟩
    rw [ne]
    cases e : us.isEmpty with
    | false => rw [e] at k; exact iteF k
    | true =>
    rw [e] at k
    refine iteT ⟨_, rfl, p, C, dx, _, _, rfl, hp, T.cl, T.n6, lf_downs, _, .inr (.inl ⟨_, SqT.of hc, rfl⟩), ?_⟩
    show Q (.bl (!(!(ds.map V.int).isEmpty))) _
    rw [ne]
    exact k
end
end My
set_option Elab.async false
set_option linter.all false
set_option maxRecDepth 100000
set_option maxHeartbeats 8000000
namespace My
open PySem PySem.Spec PyProof.Rows L2
local macro_rules | `(tactic| walk_at "lv") => `(tactic| first | exact Or.inl rfl | exact Or.inr rfl)
/-! ### x in o and a == b by an own __contains__, an own __eq__ -/
section
variable {X : Cx} {CX : CXT} {C f : Addr} {n : Nat} {fd : FuncData} {ps : List Str} {sp : Sp} {E : XK}
theorem run_own {pins : List (Addr × Obj)} {σ : L2.St} {H : Hp} {s : Shared} {a b : V} {u v : Value} {Q : VK} (F : FnOk X.prog X.w X.K X.mg X.base CX n f fd ps sp) (hb : Binds X.K fd ps []) (hx : Passes CX X E) (hr : Room n X.A)
    (I : Inv X pins σ H s) (ra : RelV a u) (rb : RelV b v) (h : sp [a, b] H Q E) : wpAny (model X.prog X.w) X.A (call (.ref f) [u, v]) (EP X pins σ Q) X.xe s := by
  have hl := F.len _ _ _ _ h
  refine wpAny_call (codeAny_mono (F.run X.A X.stack s H ⟨[u, v], []⟩ [u, v] [a, b] Q E hr I.env0 (by
    have := hb s [u, v] I.kIn (by simpa using hl)
    simpa using this) (.cons ra (.cons rb .nil)) h) fun r s' hq => ?_)
  cases r with
  | error er => exact hx pins σ H s er s' I hq
  | ok fl =>
    cases fl with
    | ret w =>
      obtain ⟨z, H', I', rz, q⟩ := I.after hq
      exact ⟨z, H', I', rz, q⟩
    | next => exact False.elim hq
    | brk => exact False.elim hq
    | cont => exact False.elim hq
/-- x in o, o an instance of the own class at C -/
def rInOwn (C : Addr) (sp : Sp) (E : XK) : R2 := fun x y H Q => ∃ a dx fs, y = .ref a ∧ H a = some (.ins C dx fs) ∧ sp [.ref a, x] H (fun v H' => ∃ b, v = .bl b ∧ Q (.bl b) H') E
theorem op_inOwn (F : FnOk X.prog X.w X.K X.mg X.base CX n f fd ps sp) (hs : PySem.W.findIn X.K (.ref C) "__contains__" = some (some (.ref f))) (hf : PySem.W.isFn X.K (.ref f) = true) (hb : Binds X.K fd ps []) (hx : Passes CX X E) (hr : Room n X.A) :
    OpR X (compareOp .In) (rInOwn C sp E) := by
  intro pns s σ H x y v u Q I rx ry h
  obtain ⟨a, dx, fs, rfl, ea, hsp⟩ := h
  cases ry
  obtain ⟨mA, J, _⟩ := ins_get I.hok ea
  have ⟨_, J, _⟩ := J.look
  have Xk := I.kIn
  show wpAny (model X.prog X.w) X.A (do return .bool (← contains (.ref a) v)) (EP X pns σ Q) X.xe s
  refine wpAny_bind ?_
  unfold contains
  refine wpAny_holding ?_
  rw [show stdlibNamesSay? (Value.ref a) v = none from rfl]
  refine wpAny_bind (show wpAny _ _ (specialOf (.ref a) "__contains__") _ _ _ from wpAny_bind (J.type.here ((PySem.W.looks_findIn Xk hs).here ?_)))
  show wpAny _ _ (if (some (Value.ref f) == some Value.none) = true then _ else _) _ _ _
  rw [if_neg (by simp)]
  refine wpAny_bind ?_
  unfold callSpecialUnlessNone?
  refine wpAny_bind (show wpAny _ _ (specialOf (.ref a) "__contains__") _ _ _ from wpAny_bind (J.type.here ((PySem.W.looks_findIn Xk hs).here ?_)))
  refine wpAny_holding (wpAny_bind ((PySem.W.bind_fn Xk _ (beq_iff_eq.mp hf)).here ?_))
  show wpAny _ _ (if (Value.ref f == Value.none) = true then _ else _) _ _ _
  rw [if_neg (by simp)]
  refine wpAny_bind (wpAny_mono (run_own F hb hx hr I (a := .ref a) (b := x) rfl rx hsp) (fun r s' q => ?_) fun _ _ e => e)
  obtain ⟨z, H', I', rz, b, rfl, q⟩ := q
  cases rz
  refine wpAny_pure ?_
  show wpAny _ _ (truthy (Value.bool b)) _ _ _
  exact wpAny_truthy_bool (wpAny_pure ⟨.bl b, H', I', rfl, q⟩)
/-- a == b, both instances of the own class at C -/
def rEqOwn (C : Addr) (sp : Sp) (E : XK) : R2 := fun x y H Q => ∃ a b dx dy fs gs, x = .ref a ∧ y = .ref b ∧ H a = some (.ins C dx fs) ∧ H b = some (.ins C dy gs) ∧ sp [.ref a, .ref b] H (fun v H' => ∃ b, v = .bl b ∧ Q (.bl b) H') E
theorem op_eqOwn (F : FnOk X.prog X.w X.K X.mg X.base CX n f fd ps sp) (hs : PySem.W.findIn X.K (.ref C) "__eq__" = some (some (.ref f))) (hf : PySem.W.isFn X.K (.ref f) = true) (hb : Binds X.K fd ps []) (hx : Passes CX X E) (hr : Room n X.A) :
    OpR X (compareOp .Eq) (rEqOwn C sp E) := by
  intro pns s σ H x y v u Q I rx ry h
  obtain ⟨a, b, dx, dy, fs, gs, rfl, rfl, ha, hb', hsp⟩ := h
  cases rx
  cases ry
  have ⟨_, J, _⟩ := ins_get I.hok ha
  have ⟨_, J', _⟩ := ins_get I.hok hb'
  have ⟨_, J, _⟩ := J.look
  have ⟨_, J', _⟩ := J'.look
  obtain ⟨m, hF⟩ := I.fr
  show wpAny (model X.prog X.w) X.A (richCompare .Eq (.ref a) (.ref b)) (EP X pns σ Q) X.xe s
  refine PySem.W.cmp_K (op := .Eq) (tb := .ref C) hr.units0 hF I.ok.mod.kin J J'.type (by simp [PySem.W.notFirst]) hs hf ?_
  refine wpAny_mono (run_own F hb hx hr I (a := .ref a) (b := .ref b) rfl rfl hsp) (fun r s' q => ?_) fun _ _ e => e
  obtain ⟨z, H', I', rz, c, rfl, q⟩ := q
  cases rz
  exact ⟨.bl c, H', I', rfl, q⟩
end
end My
set_option Elab.async false
set_option linter.all false
set_option maxRecDepth 100000
set_option maxHeartbeats 8000000
namespace My
open PySem PySem.Spec PyProof.Rows L2
local macro_rules | `(tactic| walk_at "lv") => `(tactic| first | exact Or.inl rfl | exact Or.inr rfl)
/-! ### comprehensions that make objects, if at all, and change none -/
theorem lc_itF {J : It} {n : Nat} {G : Hp → Prop} {Y : Nat → Hp → V → Hp → Prop} (w : Walk J n G Y) {g : TG} {tt : TT} {te : TE} {vs : List Nat} {σ : L2.St} {H0 : Hp} {D : Addr} {Qd : Hp → Prop} (hD : H0 D = none) (L : Nat → List V) (h0 : L 0 = [])
    (hl : ∀ i, i < n → (L i).length < sizeLine) (hG : ∀ H, Same H0 H → G H)
    (hs : ∀ i x H H', i < n → H D = some (.lst (L i)) → Same H0 H → Y i H x H' → g x (wipe σ vs) H' fun σ2 H2 => wipe σ2 vs = wipe σ vs ∧ tt σ2 H2 fun b H3 =>
      if b = true then te σ2 H3 fun y H4 => H4 D = some (.lst (L i)) ∧ Same H0 H4 ∧ L (i + 1) = L i ++ [y] else H3 D = some (.lst (L i)) ∧ Same H0 H3 ∧ L (i + 1) = L i)
    (mono : ∀ (x : V) (H' : Hp), ∀ Q Q' : L2.St → Hp → Prop, (∀ σ2 H2, Q σ2 H2 → Q' σ2 H2) → g x (wipe σ vs) H' Q → g x (wipe σ vs) H' Q')
    (monoT : ∀ (σ2 : L2.St) (H2 : Hp), ∀ Q Q' : Bool → Hp → Prop, (∀ b H3, Q b H3 → Q' b H3) → tt σ2 H2 Q → tt σ2 H2 Q')
    (monoE : ∀ (σ2 : L2.St) (H2 : Hp), ∀ Q Q' : V → Hp → Prop, (∀ b H3, Q b H3 → Q' b H3) → te σ2 H2 Q → te σ2 H2 Q')
    (hd : ∀ H, H D = some (.lst (L n)) → Same H0 H → Qd H) :
    ∃ W : Nat → Nat → Hp → Prop, (∃ m, W 0 m (upd H0 D (.lst []))) ∧ ∀ i m H, W i m H →
      (J.stop i H ∧ Qd H) ∨ (J.go i H ∧ ∃ Nx : Hp → Prop, (∀ H', Nx H' → ∃ k, k < m ∧ W (i + 1) k H') ∧ ∀ x H', J.yld i H x H' → g x (wipe σ vs) H' fun σ2 H2 => wipe σ2 vs = wipe σ vs ∧ tt σ2 H2 fun b H3 =>
        if b = true then te σ2 H3 fun y H4 => ∃ xs, H4 D = some (.lst xs) ∧ xs.length < sizeLine ∧ Nx (upd H4 D (.lst (xs ++ [y]))) else Nx H3) := by
  refine lc_it w (fun i H => H D = some (.lst (L i)) ∧ Same H0 H) ⟨by rw [h0]; exact upd_same, same_new (Same.refl H0) hD⟩ (fun i H _ h => hG H h.2) (fun i x H H' hi h y => ?_) (fun H h => hd H h.1 h.2)
  refine mono x H' _ _ (fun σ2 H2 q => ⟨q.1, monoT σ2 H2 _ _ (fun b H3 q2 => ?_) q.2⟩) (hs i x H H' hi h.1 h.2 y)
  cases b with
  | false =>
    refine iteF ?_
    obtain ⟨q1, q3, q4⟩ : _ ∧ _ ∧ _ := q2
    exact ⟨by rw [q4]; exact q1, q3⟩
  | true =>
    refine iteT ?_
    refine monoE σ2 H3 _ _ (fun v H4 q5 => ?_) q2
    obtain ⟨q1, q3, q4⟩ := q5
    refine ⟨_, q1, hl i hi, by rw [q4]; exact upd_same, fun b o e => ?_⟩
    rw [upd_ne (ne_of_none e hD)]
    exact q3 b o e
theorem walk_list2 {K : PySem.W.Frag} {a : Addr} {xs : List V} {H0 : Hp} (h : SqL K H0 a xs) : Walk (Itl K a) xs.length (fun H => Same H0 H) (YAt xs) := walk_list.mono (fun H s => s.seq h) fun _ _ _ _ _ _ y => y
theorem rep_getD (n k : Nat) : (List.replicate n false).getD k false = false := by
  rw [List.getD_eq_getElem?_getD, List.getElem?_replicate]
  split <;> rfl
section
variable {P : Program} {w : World} {K : PySem.W.Frag} {mg : Str → Option Value} {base : Heap}
/-! ### _flags -/
def spFlags : Sp := fun vs H Q _ => ∃ (a : Addr) (ns : List Int) (lo hi : Int), vs = [.int lo, .int hi, .ref a] ∧ SqA H a (ns.map V.int) ∧ lo ≤ hi + 1 ∧ hi - lo < 60000 ∧ -(2 * 10 ^ 31) ≤ lo ∧ hi ≤ 2 * 10 ^ 31 ∧ (∀ n ∈ ns, lo ≤ n ∧ n ≤ hi) ∧
  ∀ p (bs : List Bool) H', H p = none → Same H H' → H' p = some (.lst (bs.map V.bl)) → bs.length = (hi - lo + 1).toNat → (∀ k : Nat, k < bs.length → bs.getD k false = decide (lo + (k : Int) ∈ ns)) → Q (.ref p) H'
abbrev s_flags : Stmt := top 19
abbrev N_flags : List Str := ["low", "high", "numbers", "flags", "number"]
theorem sc_flags : FnScope N_flags ["low", "high", "numbers"] (defScope s_flags) := ⟨rfl, rfl, rfl, by decide +kernel, rfl, by decide +kernel, by decide +kernel⟩
theorem kp_flags (F : At K mg "_flags" s_flags) : Keeps CX0 P w K mg base "_flags" 1 ["low", "high", "numbers"] spFlags := by
  refine keeps_of F sc_flags (fun _ _ _ _ _ _ us hl => match us, hl with | [_, _, _], _ => rfl) (fun vs H Q E h => ?_) (fun f cdv A outer s H vs Q E hr h => ?_)
  · obtain ⟨a, ns, lo, hi, rfl, _⟩ := h
    rfl
  · obtain ⟨a, ns, lo, hi, rfl, hs, h1, h2, h3, h4, hb, k⟩ := h
    refine ⟨_, (pss_cons (ps_set (i := 3) sc_flags.nd rfl (by walk_at "lv") (pe_op op_rep (pe_lst (pa_cons pe_bl pa_nil)) (pe_op op_add (pe_op op_sub (pv 1) (pv 0)) pe_int)))
        (pss_cons (ps_for PassesOwn.never rfl (pi_seqV (pv 2)) (pg_name (i := 4) sc_flags.nd rfl (by walk_at "lv")) (pss_one (ps_asg pe_bl (pg_sub (pv 3) (pe_op op_sub (pv 4) (pv 0)) set_list))))
        (pss_one (ps_ret (pv 3))))), ?_⟩
    refine ⟨(by show 1 ≤ sizeLine; decide), fun l hl => ⟨_, rfl, _, rfl, _, _, rfl, rfl, _, _, rfl, rfl, l, _, _, rfl, rfl, upd_same, by omega, by omega, ?_, fun p hp => ?_⟩⟩
    · show 1 * _ ≤ _
      rw [Nat.one_mul]
      exact Nat.le_of_lt (smallB (by omega))
    · have s1 := same_new (o := .lst [V.bl false]) (Same.refl H) hl
      have e0 : ∀ n : Nat, (List.replicate n [V.bl false]).flatten = (List.replicate n false).map V.bl := fun n => by rw [rep_flat, List.map_replicate]
      rw [e0]
      have s2 := same_new (o := .lst ((List.replicate (hi - lo + 1).toNat false).map V.bl)) s1 hp
      have hpH : H p = none := s1.free hp
      refine ⟨a, _, rfl, hs.same s2, fun J wk => for_it wk (fun i σ H2 => ∃ (x : Option V) (bs : List Bool), σ = [some (.int lo), some (.int hi), some (.ref a), some (.ref p), x] ∧ H2 p = some (.lst (bs.map V.bl)) ∧ bs.length = (hi - lo + 1).toNat ∧ (∀ k : Nat, k < bs.length → bs.getD k false = decide (lo + (k : Int) ∈ ns.take i)) ∧ Same H H2)
        ⟨_, _, rfl, upd_same, by simp, (fun k hk => by rw [rep_getD]; simp), s2⟩ (fun i σ H2 _ ⟨_, _, _, _, _, _, s3⟩ => by rw [hs.keep s3, hs.keep s2]) ?_ ?_⟩
      · rintro i v σ H2 H3 hi' ⟨x, bs, rfl, e1, e2, e3, s3⟩ ⟨rfl, e4⟩
        obtain ⟨n, hn, rfl⟩ := int_at e4
        have hbn := hb n (List.mem_of_getElem? hn)
        refine ⟨_, rfl, _, rfl, _, rfl, _, _, rfl, rfl, p, _, _, (n - lo).toNat, rfl, rfl, e1, ?_, ?_⟩
        · unfold ixN
          rw [if_pos (by omega), if_pos (by rw [List.length_map]; omega)]
        refine ⟨_, bs.set (n - lo).toNat true, rfl, ?_, by rw [List.length_set]; exact e2, fun k hk => ?_, fun b o e => ?_⟩
        · rw [List.map_set]
          exact upd_same
        · rw [List.length_set] at hk
          obtain ⟨hi3, hi4⟩ := List.getElem?_eq_some_iff.mp hn
          rw [List.take_succ_eq_append_getElem hi3, hi4]
          rw [List.getD_eq_getElem?_getD, List.getElem?_set]
          by_cases q : (n - lo).toNat = k
          · rw [if_pos q, if_pos (by omega)]
            have : lo + (k : Int) = n := by omega
            simp [this]
          · rw [if_neg q, ← List.getD_eq_getElem?_getD, e3 k hk]
            have : ¬ lo + (k : Int) = n := by omega
            simp [this]
        · rw [upd_ne (ne_of_none e hpH)]
          exact s3 b o e
      · rintro σ H2 ⟨x, bs, rfl, e1, e2, e3, s3⟩
        refine ⟨_, rfl, ?_⟩
        refine k p bs H2 hpH s3 e1 e2 fun j hj => ?_
        rw [e3 j hj, List.length_map, List.take_length]
/-! ### _places_of -/
def spPlaces : Sp := fun vs H Q _ => ∃ (a : Addr) (bs : List Bool), vs = [.ref a] ∧ H a = some (.lst (bs.map V.bl)) ∧ bs.length ≤ 60000 ∧ ∀ p H', H p = none → Same H H' → H' p = some (.lst ((res bs).map V.int)) → Q (.ref p) H'
abbrev s_places : Stmt := top 20
abbrev N_places : List Str := ["flags", "place", "told"]
theorem sc_places : FnScope N_places ["flags"] (defScope s_places) := ⟨rfl, rfl, rfl, by decide +kernel, rfl, by decide +kernel, by decide +kernel⟩
theorem bl_at {ns : List Bool} {i : Nat} {x : V} (h : (ns.map V.bl)[i]? = some x) : ∃ z, ns[i]? = some z ∧ x = .bl z := by
  rw [List.getElem?_map] at h
  cases e : ns[i]? with
  | none =>
    rw [e] at h
    cases h
  | some z =>
    rw [e] at h
    exact ⟨z, rfl, (Option.some.inj h).symm⟩
theorem kp_places (F : At K mg "_places_of" s_places) (N : Nb mg) : Keeps CX0 P w K mg base "_places_of" 1 ["flags"] spPlaces := by
  refine keeps_of F sc_places (fun _ _ _ _ _ _ us hl => match us, hl with | [_], _ => rfl) (fun vs H Q E h => ?_) (fun f cdv A outer s H vs Q E hr h => ?_)
  · obtain ⟨a, bs, rfl, _⟩ := h
    rfl
  · obtain ⟨a, bs, rfl, ha, hl, k⟩ := h
    refine ⟨_, (pss_one (ps_ret (pe_lc (own := [("place", 1), ("told", 2)]) (g := gTup K 2 (gCons (gName 1) (gCons (gName 2) gNil))) rfl sc_places.nd (pi_enum (by rfl) N.enumerate (pa_cons (pv 0) pa_nil)) (blkOk_by (N := N_places) (sc := defScope s_places) (by decide +kernel)) (fun _ _ _ _ _ => (pg_tup (by rfl) (pgs_cons (pg_name (i := 1) sc_places.nd rfl (by walk_at "lv")) (pgs_cons (pg_name (i := 2) sc_places.nd rfl (by walk_at "lv")) pgs_nil)))) (fun _ _ _ _ _ => (pts_one (pt_val (pv 2)))) (fun _ _ _ _ _ => (pv 1))))), ?_⟩
    refine ⟨_, rfl, a, _, rfl, SqL.of ha, fun D hD => ?_⟩
    refine lc_it walk_enum (fun i H3 => H3 D = some (.lst ((fil (fun k => bs.getD k.toNat false) 0 i).map V.int)) ∧ Same H H3) ⟨upd_same, same_new (Same.refl H) hD⟩ (fun i H3 _ h => h.2.seq (SqL.of ha)) ?_ ?_
    · rintro i v H2 H3 hi ⟨e1, s1⟩ ⟨T, u, z, rfl, nT, rfl, e3, e4⟩
      obtain ⟨b, hb, rfl⟩ := bl_at e4
      cases Option.some.inj e3
      have s2 := same_new (o := .tup [V.int (i : Nat), V.bl b]) s1 nT
      have hDT : D ≠ T := ne_of_none e1 nT
      have hib : i < bs.length := (List.getElem?_eq_some_iff.mp hb).1
      have hbs : bs.getD (0 + (i : Int)).toNat false = b := by
        rw [show (0 + (i : Int)).toNat = i by omega, List.getD_eq_getElem?_getD, hb]
        rfl
      refine ⟨T, _, rfl, SqT.of upd_same, rfl, _, _, rfl, _, _, rfl, rfl, ?_⟩
      refine ⟨rfl, _, rfl, _, rfl, ?_⟩
      cases b with
      | false =>
        refine iteF ⟨?_, s2⟩
        rw [fil_neg (by rw [hbs]; exact Bool.false_ne_true), upd_ne hDT]
        exact e1
      | true =>
        refine iteT ⟨_, rfl, _, by rw [upd_ne hDT]; exact e1, smallB (by rw [List.length_map]; exact Nat.le_trans (fil_len _ _ _) (by omega)), ?_, fun b o e => ?_⟩
        · rw [fil_pos hbs, List.map_append, Int.zero_add]
          exact upd_same
        · rw [upd_ne (ne_of_none e hD)]
          exact s2 b o e
    · rintro H3 ⟨e1, s1⟩
      rw [List.length_map] at e1
      exact k D H3 hD s1 e1
end
end My
set_option Elab.async false
set_option linter.all false
set_option maxRecDepth 100000
set_option maxHeartbeats 8000000
namespace My
open PySem PySem.Spec PyProof.Rows L2
local macro_rules | `(tactic| walk_at "lv") => `(tactic| first | exact Or.inl rfl | exact Or.inr rfl)
theorem vdecB (a b : Bool) : decide (V.bl a = V.bl b) = decide (a = b) := by
  by_cases h : a = b
  · subst h; simp
  · simp [h]
theorem blI_get {bs : List Bool} {i : Int} (h0 : 0 ≤ i) (h1 : i < bs.length) : atI (bs.map V.bl) i = some (.bl (bs.getD i.toNat false)) := by
  obtain ⟨v, e, e2⟩ := atI_of (xs := bs.map V.bl) h0 (by rw [List.length_map]; exact h1)
  obtain ⟨b, hb, rfl⟩ := bl_at e
  rw [e2, List.getD_eq_getElem?_getD, hb]
  rfl
theorem cyc_get {bs : List Bool} {n : Int} {m : Nat} (hm : bs.length = m) (h : 0 < m) : atI (bs.map V.bl) (n % (m : Int)) = some (.bl (cyc bs n)) := by
  have k0 := Int.emod_nonneg n (by omega : (m : Int) ≠ 0)
  have k1 := Int.emod_lt_of_pos n (by omega : (0 : Int) < (m : Int))
  rw [blI_get k0 (by omega)]
  unfold cyc
  rw [hm]
section
variable {P : Program} {w : World} {K : PySem.W.Frag} {mg : Str → Option Value} {base : Heap}
/-! ### _repeats -/
def spRep : Sp := fun vs H Q _ => ∃ (a : Addr) (bs : List Bool) (d : Nat), vs = [.ref a, .int d] ∧ H a = some (.lst (bs.map V.bl)) ∧ 0 < d ∧ d < bs.length ∧ ∀ H' r, Same H H' → r = decide (bs.drop d = bs.take (bs.length - d)) → Q (.bl r) H'
abbrev s_rep : Stmt := top 22
abbrev N_rep : List Str := ["flags", "length"]
theorem sc_rep : FnScope N_rep ["flags", "length"] (defScope s_rep) := ⟨rfl, rfl, rfl, by decide +kernel, rfl, by decide +kernel, by decide +kernel⟩
theorem eqv_lb (a b : List Bool) : PyData.eqv (.list (a.map PyData.bool)) (.list (b.map PyData.bool)) = decide (a = b) := eqv_bls a b
theorem shp_lb (ns : List Bool) : SeqAt.shaped (.list (ns.map PyData.bool)) = true := shp_lst (lay_bls ns).1 (lay_bls ns).2 (by decide)
theorem kp_rep (F : At K mg "_repeats" s_rep) : Keeps CX0 P w K mg base "_repeats" 1 ["flags", "length"] spRep := by
  refine keeps_of F sc_rep (fun _ _ _ _ _ _ us hl => match us, hl with | [_, _], _ => rfl) (fun vs H Q E h => ?_) (fun f cdv A outer s H vs Q E hr h => ?_)
  · obtain ⟨a, bs, d, rfl, _⟩ := h
    rfl
  · obtain ⟨a, bs, d, rfl, ha, h0, h1, k⟩ := h
    refine ⟨_, (pss_one (ps_ret (pe_cmpR (op_eqD hr.units) (pe_slice sl_list (pv 0) (po_some (pv 1)) po_none) (pe_slice sl_list (pv 0) po_none (po_some (pe_un un_neg (pv 1)))) (nomark _)))), ?_⟩
    refine ⟨_, rfl, _, rfl, _, rfl, a, _, rfl, SqL.of ha, fun p hp => ?_⟩
    have s1 := same_new (o := .lst (cutV (bs.map V.bl) (some (d : Int)) none)) (Same.refl H) hp
    refine ⟨_, rfl, _, rfl, _, rfl, _, rfl, a, _, rfl, SqL.of (s1 _ _ ha), fun q hq => ?_⟩
    have s2 := same_new (o := .lst (cutV (bs.map V.bl) none (some (-(d : Int))))) s1 hq
    have e1 : cutV (bs.map V.bl) (some (d : Int)) none = (bs.drop d).map V.bl := by
      unfold cutV
      rw [HT.sIx_nat, HT.sIx_none, List.length_map, Nat.min_eq_left (by omega), ← List.map_drop, List.take_of_length_le (by rw [List.length_map, List.length_drop]; omega)]
    have e2 : cutV (bs.map V.bl) none (some (-(d : Int))) = (bs.take (bs.length - d)).map V.bl := by
      unfold cutV
      rw [HT.sIx_none, List.drop_zero, List.length_map]
      have : HT.sIx bs.length bs.length (some (-(d : Int))) = bs.length - d := by
        show (if -(d : Int) < 0 then _ else _) = _
        rw [if_pos (by omega)]
        omega
      rw [this, List.map_take]
      rfl
    have hpq : p ≠ q := ne_of_none upd_same hq
    rw [e1, e2] at s2 ⊢
    refine ⟨_, _, .lst (SqL.of (by rw [upd_ne hpq]; exact upd_same)) (dp_bls _), .lst (SqL.of upd_same) (dp_bls _), shp_lb _, shp_lb _, ?_⟩
    show Q (.bl (PyData.eqv _ _)) _
    rw [eqv_lb]
    exact k _ _ s2 rfl
/-! ### _least_modulus -/
def spLM : Sp := fun vs H Q _ => ∃ (a b : Addr) (us ds : List Bool), vs = [.ref a, .ref b] ∧ H a = some (.lst (us.map V.bl)) ∧ H b = some (.lst (ds.map V.bl)) ∧ ds.length = us.length ∧ 0 < us.length ∧ us.length ≤ 60000 ∧
  ∀ H' (d : Nat), Same H H' → Least (cyc us) (cyc ds) d → d ≤ us.length → Q (.int d) H'
abbrev s_lm : Stmt := top 21
abbrev N_lm : List Str := ["ups", "downs", "many", "length"]
theorem sc_lm : FnScope N_lm ["ups", "downs"] (defScope s_lm) := ⟨rfl, rfl, rfl, by decide +kernel, rfl, by decide +kernel, by decide +kernel⟩
theorem kp_lm (F : At K mg "_least_modulus" s_lm) (G : Keeps CX0 P w K mg base "_repeats" 1 ["flags", "length"] spRep) (N : Nb mg) : Keeps CX0 P w K mg base "_least_modulus" 2 ["ups", "downs"] spLM := by
  refine keeps_of F sc_lm (fun _ _ _ _ _ _ us hl => match us, hl with | [_, _], _ => rfl) (fun vs H Q E h => ?_) (fun f cdv A outer s H vs Q E hr h => ?_)
  · obtain ⟨a, b, us, ds, rfl, _⟩ := h
    rfl
  · obtain ⟨a, b, us, ds, rfl, ha, hb, hl, h0, h1, k⟩ := h
    refine ⟨_, (pss_cons (ps_set (i := 2) sc_lm.nd rfl (by walk_at "lv") (pe_callB call_len_seq (by rfl) N.len (by decide +kernel) (pa_cons (pv 0) pa_nil)))
        (pss_cons (ps_for PassesOwn.never rfl (pi_range2 (by rfl) N.range (pa_cons pe_int (pa_cons (pv 2) pa_nil))) (pg_name (i := 3) sc_lm.nd rfl (by walk_at "lv")) (pss_one (ps_if (PW.pt (pw_and (pt_cmpR op_eq (pe_op op_mod (pv 2) (pv 3)) pe_int (nomark _)) (pw_and (pt_val (pe_k G hr (by rfl) pass0 (pa_cons (pv 0) (pa_cons (pv 3) pa_nil)))) (pw_and1 (pt_val (pe_k G hr (by rfl) pass0 (pa_cons (pv 1) (pa_cons (pv 3) pa_nil)))))))) (pss_one (ps_ret (pv 3))) pss_nil)))
        (pss_one (ps_ret (pv 2))))), ?_⟩
    have pu : Per (cyc us) us.length := cyc_per
    have pd : Per (cyc ds) us.length := by have := cyc_per (l := ds); rw [hl] at this; exact this
    refine ⟨_, rfl, a, _, rfl, .inl (SqL.of ha), _, rfl, ?_⟩
    refine ⟨_, _, rfl, ⟨by decide, by decide, by rw [List.length_map]; omega, by rw [List.length_map]; omega⟩, ?_⟩
    rw [List.length_map, show ((us.length : Int) - 1).toNat = us.length - 1 by omega]
    refine for_range (lo := 1) (n := us.length - 1) (fun i σ H2 => ∃ x : Option V, σ = [some (.ref a), some (.ref b), some (.int us.length), x] ∧ Same H H2 ∧ ∀ e, 0 < e → e ≤ i → us.length % e = 0 → Per (cyc us) e → Per (cyc ds) e → False) ⟨_, rfl, Same.refl H, fun e h1 h2 => by omega⟩ ?_ ?_
    · rintro i σ H2 hi ⟨x, rfl, s2, no⟩
      have e1 : (1 : Int) + (i : Nat) = ((i + 1 : Nat) : Int) := by omega
      rw [e1]
      have nx : ∀ H3, Same H H3 → (us.length % (i + 1) = 0 → Per (cyc us) (i + 1) → Per (cyc ds) (i + 1) → False) → ∃ y : Option V, [some (V.ref a), some (V.ref b), some (V.int us.length), some (V.int ((i + 1 : Nat) : Int))] = [some (.ref a), some (.ref b), some (.int us.length), y] ∧ Same H H3 ∧ ∀ e, 0 < e → e ≤ i + 1 → us.length % e = 0 → Per (cyc us) e → Per (cyc ds) e → False := fun H3 s3 hn => ⟨_, rfl, s3, fun e h2 h3 h4 h5 h6 => by
        rcases Nat.lt_or_ge e (i + 1) with q | q
        · exact no e h2 (by omega) h4 h5 h6
        · have : e = i + 1 := by omega
          subst this
          exact hn h4 h5 h6⟩
      refine ⟨_, rfl, _, rfl, _, _, rfl, rfl, (by omega : (0 : Int) < ((i + 1 : Nat) : Int)), rfl, _, rfl, ?_⟩
      rw [vdec]
      refine ite2 (fun c => ?_) (fun c => ?_)
      · have c1 : us.length % (i + 1) = 0 := by
          have := of_decide_eq_true c
          omega
        refine ⟨_, rfl, _, rfl, a, us, i + 1, rfl, s2 _ _ ha, by omega, by omega, fun H3 r s3 er => ⟨_, rfl, ?_⟩⟩
        have s4 := s2.trans s3
        cases r with
        | false =>
          refine iteF (nx _ s4 fun _ pu' _ => ?_)
          exact of_decide_eq_false er.symm ((cut_shift (by omega)).mpr (per_shift pu'))
        | true =>
          refine iteT ⟨_, rfl, _, rfl, b, ds, i + 1, rfl, s4 _ _ hb, by omega, by omega, fun H5 r2 s5 er2 => ⟨_, rfl, ?_⟩⟩
          have s6 := s4.trans s5
          cases r2 with
          | false =>
            refine iteF (nx _ s6 fun _ _ pd' => ?_)
            exact of_decide_eq_false er2.symm ((cut_shift (by omega)).mpr (per_shift pd'))
          | true =>
            refine iteT ⟨_, rfl, ?_⟩
            refine k H5 (i + 1) s6 (least_by h0 pu pd (by omega) (shift_per (by omega) c1 ((cut_shift (by omega)).mp (of_decide_eq_true er.symm))) (shift_per (by omega) (by rw [hl]; exact c1) ((cut_shift (by omega)).mp (of_decide_eq_true er2.symm))) fun e h2 h3 h4 h5 h6 => no e h2 (by omega) h4 h5 h6) (by omega)
      · exact nx _ s2 fun z => absurd (by rw [decide_eq_true]; omega) c
    · rintro σ H2 ⟨x, rfl, s2, no⟩
      refine ⟨_, rfl, ?_⟩
      exact k H2 us.length s2 (least_by h0 pu pd h0 pu pd fun e h2 h3 h4 h5 h6 => no e h2 (by omega) h4 h5 h6) (Nat.le_refl _)
end
end My
set_option Elab.async false
set_option linter.all false
set_option maxRecDepth 100000
set_option maxHeartbeats 8000000
namespace My
open PySem PySem.Spec PyProof.Rows L2
local macro_rules | `(tactic| walk_at "lv") => `(tactic| first | exact Or.inl rfl | exact Or.inr rfl)
section
variable {P : Program} {w : World} {K : PySem.W.Frag} {mg : Str → Option Value} {base : Heap}
/-- a telling's three lists -/
structure TlAt (H : Hp) (T : Tl) (c u d : Addr) : Prop where
  cs : H c = some (.lst (T.cs.map V.bl))
  us : H u = some (.lst (T.us.map V.bl))
  ds : H d = some (.lst (T.ds.map V.bl))
theorem TlAt.same {H H' : Hp} {T : Tl} {c u d : Addr} (s : Same H H') (h : TlAt H T c u d) : TlAt H' T c u d := ⟨s _ _ h.cs, s _ _ h.us, s _ _ h.ds⟩
structure Tl.Near (T : Tl) : Prop where
  ok : T.Ok
  m : T.us.length ≤ 60000
  c : T.cs.length ≤ 60000
  lo : -10 ^ 31 ≤ T.lo ∧ T.lo ≤ 10 ^ 31
/-! ### _greatest_wrong -/
def spGW : Sp := fun vs H Q _ => ∃ (T : Tl) (c u d : Addr), vs = [.int T.lo, .ref c, .ref u, .ref d] ∧ TlAt H T c u d ∧ T.Near ∧ ((∀ n, T.has n = T.U n) → Q .non H) ∧ (∀ v, T.has v ≠ T.U v → (∀ n, v < n → T.has n = T.U n) → v ≤ T.hi → Q (.int v) H)
abbrev s_gw : Stmt := top 23
abbrev N_gw : List Str := ["low", "core", "ups", "downs", "many", "at", "number"]
theorem sc_gw : FnScope N_gw ["low", "core", "ups", "downs"] (defScope s_gw) := ⟨rfl, rfl, rfl, by decide +kernel, rfl, by decide +kernel, by decide +kernel⟩
theorem kp_gw (F : At K mg "_greatest_wrong" s_gw) (N : Nb mg) : Keeps CX0 P w K mg base "_greatest_wrong" 1 ["low", "core", "ups", "downs"] spGW := by
  refine keeps_of F sc_gw (fun _ _ _ _ _ _ us hl => match us, hl with | [_, _, _, _], _ => rfl) (fun vs H Q E h => ?_) (fun f cdv A outer s H vs Q E hr h => ?_)
  · obtain ⟨T, c, u, d, rfl, _⟩ := h
    rfl
  · obtain ⟨T, c, u, d, rfl, a, near, kn, ks⟩ := h
    have ok := near.ok
    have hm := ok.pos
    have hm1 := near.m
    have hc1 := near.c
    have hlo := near.lo
    have hhi : T.hi = T.lo + T.cs.length - 1 := rfl
    refine ⟨_, (pss_cons (ps_set (i := 4) sc_gw.nd rfl (by walk_at "lv") (pe_callB call_len_seq (by rfl) N.len (by decide +kernel) (pa_cons (pv 2) pa_nil)))
        (pss_cons (ps_for PassesOwn.never rfl (pi_range3 (by rfl) N.range (pa_cons (pe_op op_sub (pe_callB call_len_seq (by rfl) N.len (by decide +kernel) (pa_cons (pv 1) pa_nil)) pe_int) (pa_cons (pe_un un_neg pe_int) (pa_cons (pe_un un_neg pe_int) pa_nil)))) (pg_name (i := 5) sc_gw.nd rfl (by walk_at "lv")) (pss_one (ps_if (pt_cmpR op_ne (pe_ix ix_list (pv 1) (pv 5) (fun _ _ => rfl)) (pe_ix ix_list (pv 2) (pe_op op_mod (pe_op op_add (pv 0) (pv 5)) (pv 4)) (fun _ _ => rfl)) (nomark _)) (pss_one (ps_ret (pe_op op_add (pv 0) (pv 5)))) pss_nil)))
        (pss_cons (ps_for PassesOwn.never rfl (pi_rangeD (by rfl) N.range (pa_cons (pe_op op_sub (pv 0) pe_int) (pa_cons (pe_op op_sub (pe_op op_sub (pv 0) pe_int) (pv 4)) (pa_cons (pe_un un_neg pe_int) pa_nil)))) (pg_name (i := 6) sc_gw.nd rfl (by walk_at "lv")) (pss_one (ps_if (pt_cmpR op_ne (pe_ix ix_list (pv 3) (pe_op op_mod (pv 6) (pv 4)) (fun _ _ => rfl)) (pe_ix ix_list (pv 2) (pe_op op_mod (pv 6) (pv 4)) (fun _ _ => rfl)) (nomark _)) (pss_one (ps_ret (pv 6))) pss_nil)))
        (pss_one (ps_ret pe_non))))), ?_⟩
    refine ⟨_, rfl, u, _, rfl, .inl (SqL.of a.us), ?_⟩
    rw [List.length_map]
    refine ⟨_, rfl, c, _, rfl, .inl (SqL.of a.cs), _, _, rfl, rfl, _, rfl, _, rfl, _, _, _, _, rfl, RgC.neg (by rw [List.length_map]; omega) (by rw [List.length_map]; omega) (by decide) (by decide), ?_⟩
    rw [List.length_map, show ((T.cs.length : Int) - 1 - -1).toNat = T.cs.length by omega]
    refine for_rangeC (lo := (T.cs.length : Int) - 1) (c := -1) (n := T.cs.length) (fun i σ H2 => ∃ x : Option V, σ = [some (.int T.lo), some (.ref c), some (.ref u), some (.ref d), some (.int T.us.length), x, none] ∧ H2 = H ∧ ∀ n, T.lo + T.cs.length - i ≤ n → T.has n = T.U n) ⟨_, rfl, rfl, fun n hn => Tl.above (by omega)⟩ ?_ ?_
    · rintro i σ H2 hi ⟨x, rfl, rfl, inv⟩
      have e1 : (T.cs.length : Int) - 1 + (i : Nat) * -1 = ((T.cs.length - 1 - i : Nat) : Int) := by omega
      rw [e1]
      have hk : T.cs.length - 1 - i < T.cs.length := by omega
      have g1 := blI_get (bs := T.cs) (i := ((T.cs.length - 1 - i : Nat) : Int)) (by omega) (by omega)
      refine ⟨_, rfl, _, rfl, c, _, _, _, rfl, rfl, SqL.of a.cs, g1, _, rfl, _, rfl, _, rfl, _, _, rfl, rfl, _, rfl, _, _, rfl, rfl, (by omega : (0 : Int) < (T.us.length : Int)), u, _, _, _, rfl, rfl, SqL.of a.us, cyc_get rfl hm, rfl, _, rfl, ?_⟩
      show if (!decide (V.bl _ = V.bl _)) = true then _ else _
      rw [vdecB]
      have cn : T.has (T.lo + ((T.cs.length - 1 - i : Nat) : Int)) = T.cs.getD (T.cs.length - 1 - i) false := by
        rw [Tl.core (by omega) (by omega)]
        congr 1
        omega
      rw [show ((T.cs.length - 1 - i : Nat) : Int).toNat = T.cs.length - 1 - i by omega, ← cn]
      by_cases q : T.has (T.lo + ((T.cs.length - 1 - i : Nat) : Int)) = T.U (T.lo + ((T.cs.length - 1 - i : Nat) : Int))
      · rw [show decide (T.has (T.lo + ((T.cs.length - 1 - i : Nat) : Int)) = cyc T.us (T.lo + ((T.cs.length - 1 - i : Nat) : Int))) = true from decide_eq_true q]
        refine iteF ⟨_, rfl, rfl, fun n hn => ?_⟩
        rcases Int.lt_or_le (T.lo + ((T.cs.length - 1 - i : Nat) : Int)) n with z | z
        · exact inv n (by omega)
        · have : n = T.lo + ((T.cs.length - 1 - i : Nat) : Int) := by omega
          rw [this]
          exact q
      · rw [show decide (T.has (T.lo + ((T.cs.length - 1 - i : Nat) : Int)) = cyc T.us (T.lo + ((T.cs.length - 1 - i : Nat) : Int))) = false from decide_eq_false q]
        refine iteT ⟨_, rfl, _, rfl, _, _, rfl, rfl, ?_⟩
        exact ks _ q (fun n hn => inv n (by omega)) (by omega)
    · rintro σ H2 ⟨x, rfl, rfl, inv⟩
      refine ⟨_, rfl, _, _, rfl, rfl, _, rfl, _, _, rfl, rfl, _, rfl, _, _, rfl, rfl, _, rfl, _, _, rfl, ?_⟩
      rw [show (T.lo - 1 - (T.lo - 1 - (T.us.length : Int))).toNat = T.us.length by omega]
      refine for_rangeC (lo := T.lo - 1) (c := -1) (n := T.us.length) (fun i σ H3 => ∃ y : Option V, σ = [some (.int T.lo), some (.ref c), some (.ref u), some (.ref d), some (.int T.us.length), x, y] ∧ H3 = H2 ∧ ∀ n, T.lo - i ≤ n → T.has n = T.U n) ⟨_, rfl, rfl, fun n hn => inv n (by omega)⟩ ?_ ?_
      · rintro i σ H3 hi ⟨y, rfl, rfl, inv2⟩
        have e1 : T.lo - 1 + (i : Nat) * -1 = T.lo - 1 - (i : Int) := by omega
        rw [e1]
        refine ⟨_, rfl, _, rfl, _, rfl, _, _, rfl, rfl, (by omega : (0 : Int) < (T.us.length : Int)), d, _, _, _, rfl, rfl, SqL.of a.ds, cyc_get (n := T.lo - 1 - (i : Int)) ok.len hm, _, rfl, _, rfl, _, rfl, _, _, rfl, rfl, (by omega : (0 : Int) < (T.us.length : Int)), u, _, _, _, rfl, rfl, SqL.of a.us, cyc_get (n := T.lo - 1 - (i : Int)) rfl hm, rfl, _, rfl, ?_⟩
        show if (!decide (V.bl _ = V.bl _)) = true then _ else _
        rw [vdecB]
        have cn : T.has (T.lo - 1 - (i : Int)) = cyc T.ds (T.lo - 1 - (i : Int)) := Tl.below (by omega)
        rw [← cn]
        by_cases q : T.has (T.lo - 1 - (i : Int)) = cyc T.us (T.lo - 1 - (i : Int))
        · rw [decide_eq_true q]
          refine iteF ⟨_, rfl, rfl, fun n hn => ?_⟩
          rcases Int.lt_or_le (T.lo - 1 - (i : Int)) n with z | z
          · exact inv2 n (by omega)
          · have : n = T.lo - 1 - (i : Int) := by omega
            rw [this]
            exact q
        · rw [decide_eq_false q]
          refine iteT ⟨_, rfl, ?_⟩
          exact ks _ q (fun n hn => inv2 n (by omega)) (by omega)
      · rintro σ H3 ⟨y, rfl, rfl, inv2⟩
        exact kn fun n => by
          rcases Int.lt_or_le n T.lo with z | z
          · exact Tl.all_above ok (Int.le_refl _) (fun n h1 h2 => inv2 n (by unfold Tl.m at h1; omega)) n z
          · exact inv2 n (by omega)
end
end My
set_option Elab.async false
set_option linter.all false
set_option maxRecDepth 100000
set_option maxHeartbeats 8000000
namespace My
open PySem PySem.Spec PyProof.Rows L2
local macro_rules | `(tactic| walk_at "lv") => `(tactic| first | exact Or.inl rfl | exact Or.inr rfl)
section
variable {P : Program} {w : World} {K : PySem.W.Frag} {mg : Str → Option Value} {base : Heap}
/-! ### _least_wrong -/
def spLW : Sp := fun vs H Q _ => ∃ (T : Tl) (c u d : Addr), vs = [.int T.lo, .ref c, .ref u, .ref d] ∧ TlAt H T c u d ∧ T.Near ∧ (∃ n, T.has n ≠ T.U n) ∧ (∀ v H', Same H H' → T.has v ≠ T.D v → (∀ n, n < v → T.has n = T.D n) → T.lo ≤ v → Q (.int v) H')
abbrev s_lw : Stmt := top 24
abbrev N_lw : List Str := ["low", "core", "ups", "downs", "many", "at", "told", "number"]
theorem sc_lw : FnScope N_lw ["low", "core", "ups", "downs"] (defScope s_lw) := ⟨rfl, rfl, rfl, by decide +kernel, rfl, by decide +kernel, by decide +kernel⟩
theorem kp_lw (F : At K mg "_least_wrong" s_lw) (N : Nb mg) : Keeps CX0 P w K mg base "_least_wrong" 1 ["low", "core", "ups", "downs"] spLW := by
  refine keeps_of F sc_lw (fun _ _ _ _ _ _ us hl => match us, hl with | [_, _, _, _], _ => rfl) (fun vs H Q E h => ?_) (fun f cdv A outer s H vs Q E hr h => ?_)
  · obtain ⟨T, c, u, d, rfl, _⟩ := h
    rfl
  · obtain ⟨T, c, u, d, rfl, a, near, ex, ks⟩ := h
    have ok := near.ok
    have hm := ok.pos
    have hm1 := near.m
    have hc1 := near.c
    have hlo := near.lo
    have hhi : T.hi = T.lo + T.cs.length - 1 := rfl
    refine ⟨_, (pss_cons (ps_set (i := 4) sc_lw.nd rfl (by walk_at "lv") (pe_callB call_len_seq (by rfl) N.len (by decide +kernel) (pa_cons (pv 3) pa_nil)))
        (pss_cons (ps_for PassesOwn.never rfl (pi_enum (by rfl) N.enumerate (pa_cons (pv 1) pa_nil)) (pg_tup (by rfl) (pgs_cons (pg_name (i := 5) sc_lw.nd rfl (by walk_at "lv")) (pgs_cons (pg_name (i := 6) sc_lw.nd rfl (by walk_at "lv")) pgs_nil))) (pss_one (ps_if (pt_cmpR op_ne (pv 6) (pe_ix ix_list (pv 3) (pe_op op_mod (pe_op op_add (pv 0) (pv 5)) (pv 4)) (fun _ _ => rfl)) (nomark _)) (pss_one (ps_ret (pe_op op_add (pv 0) (pv 5)))) pss_nil)))
        (pss_cons (ps_set (i := 7) sc_lw.nd rfl (by walk_at "lv") (pe_op op_add (pv 0) (pe_callB call_len_seq (by rfl) N.len (by decide +kernel) (pa_cons (pv 1) pa_nil))))
        (pss_cons (ps_while PassesOwn.never (pt_cmpR op_eq (pe_ix ix_list (pv 2) (pe_op op_mod (pv 7) (pv 4)) (fun _ _ => rfl)) (pe_ix ix_list (pv 3) (pe_op op_mod (pv 7) (pv 4)) (fun _ _ => rfl)) (nomark _)) (pss_one (ps_aug (i := 7) sc_lw.nd rfl (by walk_at "lv") pe_int ip_add)))
        (pss_one (ps_ret (pv 7))))))), ?_⟩
    refine ⟨_, rfl, d, _, rfl, .inl (SqL.of a.ds), ?_⟩
    rw [List.length_map, ok.len]
    refine ⟨_, rfl, c, _, rfl, SqL.of a.cs, for_it walk_enum (fun i σ H2 => ∃ x y : Option V, σ = [some (.int T.lo), some (.ref c), some (.ref u), some (.ref d), some (.int T.us.length), x, y, none] ∧ Same H H2 ∧ ∀ n, n < T.lo + i → T.has n = T.D n) ⟨_, _, rfl, Same.refl H, fun n hn => Tl.below (by omega)⟩ (fun i σ H2 _ ⟨_, _, _, s2, _⟩ => s2.seq (SqL.of a.cs)) ?_ ?_⟩
    · rintro i v σ H2 H3 hi ⟨x, y, rfl, s2, inv⟩ ⟨W, p, z, rfl, nW, rfl, e3, e4⟩
      obtain ⟨b, hb, rfl⟩ := bl_at e4
      cases Option.some.inj e3
      have s3 := same_new (o := .tup [V.int (i : Nat), V.bl b]) s2 nW
      have hic : i < T.cs.length := (List.getElem?_eq_some_iff.mp hb).1
      have cn : T.has (T.lo + (i : Int)) = b := by
        rw [Tl.core (by omega) (by omega), show (T.lo + (i : Int) - T.lo).toNat = i by omega, List.getD_eq_getElem?_getD, hb]
        rfl
      refine ⟨W, _, rfl, SqT.of upd_same, rfl, _, _, rfl, _, _, rfl, rfl, ?_⟩
      refine ⟨_, rfl, _, rfl, _, rfl, _, rfl, _, _, rfl, rfl, _, rfl, _, _, rfl, rfl, (by omega : (0 : Int) < (T.us.length : Int)), d, _, _, _, rfl, rfl, SqL.of (s3 _ _ a.ds), cyc_get (n := T.lo + (i : Int)) ok.len hm, rfl, _, rfl, ?_⟩
      show if (!decide (V.bl _ = V.bl _)) = true then _ else _
      rw [vdecB]
      by_cases q : b = cyc T.ds (T.lo + (i : Int))
      · rw [decide_eq_true q]
        refine iteF ⟨_, _, rfl, s3, fun n hn => ?_⟩
        rcases Int.lt_or_le n (T.lo + (i : Int)) with z | z
        · exact inv n z
        · have : n = T.lo + (i : Int) := by omega
          rw [this, cn]
          exact q
      · rw [decide_eq_false q]
        refine iteT ⟨_, rfl, _, rfl, _, _, rfl, rfl, ?_⟩
        exact ks _ _ s3 (by rw [cn]; exact q) inv (by omega)
    · rintro σ H2 ⟨x, y, rfl, s2, inv⟩
      rw [List.length_map] at inv
      obtain ⟨W, w1, w2, w3⟩ := Tl.parts ok ex fun n h1 h2 => inv n (by omega)
      refine ⟨_, rfl, _, rfl, c, _, rfl, .inl (SqL.of (s2 _ _ a.cs)), _, _, rfl, rfl, ?_⟩
      rw [List.length_map]
      refine while_by (fun σ H3 => ∃ n : Int, σ = [some (.int T.lo), some (.ref c), some (.ref u), some (.ref d), some (.int T.us.length), x, y, some (.int n)] ∧ H3 = H2 ∧ T.hi < n ∧ n ≤ W ∧ ∀ k, T.hi < k → k < n → T.U k = T.D k) (fun σ H3 => match σ[7]? with | some (some (V.int n)) => (W - n).toNat | _ => 0) ⟨T.lo + T.cs.length, rfl, rfl, by omega, by omega, fun k h1 h2 => by omega⟩ ?_ ?_
      · rintro σ H3 ⟨n, rfl, rfl, n1, n2, n3⟩
        refine ⟨_, rfl, _, rfl, _, rfl, _, _, rfl, rfl, (by omega : (0 : Int) < (T.us.length : Int)), u, _, _, _, rfl, rfl, SqL.of (s2 _ _ a.us), cyc_get (n := n) rfl hm, _, rfl, _, rfl, _, rfl, _, _, rfl, rfl, (by omega : (0 : Int) < (T.us.length : Int)), d, _, _, _, rfl, rfl, SqL.of (s2 _ _ a.ds), cyc_get (n := n) ok.len hm, rfl, _, rfl, ?_⟩
        rw [vdecB]
        by_cases q : cyc T.us n = cyc T.ds n
        · rw [decide_eq_true q]
          have nW : n ≠ W := fun z => w3 (by rw [← z]; exact q)
          refine iteT ⟨_, rfl, _, _, rfl, rfl, ?_⟩
          refine ⟨⟨n + 1, rfl, rfl, by omega, by omega, fun k h1 h2 => ?_⟩, (by show (W - (n + 1)).toNat < (W - n).toNat; omega)⟩
          rcases Int.lt_or_le k n with z | z
          · exact n3 k h1 z
          · have : k = n := by omega
            rw [this]
            exact q
        · rw [decide_eq_false q]
          refine iteF ⟨_, rfl, ?_⟩
          refine ks n _ s2 (by rw [Tl.above n1]; exact q) (fun k hk => ?_) (by omega)
          rcases Int.lt_or_le T.hi k with z | z
          · rw [Tl.above z]
            exact n3 k z hk
          · exact inv k (by omega)
      · rintro σ H3 Q1 Q2 hq ⟨x1, h1, x2, h2, x3, h3, i, j, e1, e2, pos, p, xs, ix, v, e3, e4, sq, at_, y1, g1, y2, g2, y3, g3, i', j', f1, f2, pos', p', xs', ix', v', f3, f4, sq', at', sc, k, ek, q⟩
        exact ⟨x1, h1, x2, h2, x3, h3, i, j, e1, e2, pos, p, xs, ix, v, e3, e4, sq, at_, y1, g1, y2, g2, y3, g3, i', j', f1, f2, pos', p', xs', ix', v', f3, f4, sq', at', sc, k, ek, hq _ _ q⟩
end
end My
set_option Elab.async false
set_option linter.all false
set_option maxRecDepth 100000
set_option maxHeartbeats 8000000
namespace My
open PySem PySem.Spec PyProof.Rows L2
local macro_rules | `(tactic| walk_at "lv") => `(tactic| first | exact Or.inl rfl | exact Or.inr rfl)
/-- the lists of numbers that tell T -/
structure Told (T : Tl) (ins us ds : List Int) : Prop where
  i : ∀ n ∈ ins, T.lo ≤ n ∧ n ≤ T.hi
  ic : ∀ k : Nat, k < T.cs.length → T.cs.getD k false = decide (T.lo + (k : Int) ∈ ins)
  u : ∀ n ∈ us, 0 ≤ n ∧ n ≤ (T.us.length : Int) - 1
  uc : ∀ k : Nat, k < T.us.length → T.us.getD k false = decide ((0 : Int) + (k : Int) ∈ us)
  d : ∀ n ∈ ds, 0 ≤ n ∧ n ≤ (T.us.length : Int) - 1
  dc : ∀ k : Nat, k < T.us.length → T.ds.getD k false = decide ((0 : Int) + (k : Int) ∈ ds)
theorem getD_ext {as bs : List Bool} (hl : as.length = bs.length) (h : ∀ k, k < as.length → as.getD k false = bs.getD k false) : as = bs := by
  refine List.ext_getElem hl fun k h1 h2 => ?_
  have := h k h1
  rw [List.getD_eq_getElem?_getD, List.getD_eq_getElem?_getD, List.getElem?_eq_getElem h1, List.getElem?_eq_getElem h2] at this
  exact this
def insOf (T : Tl) (lo hi : Int) : List Int := fil T.has lo (hi + 1 - lo).toNat
def resOf (f : Int → Bool) (d : Nat) : List Int := fil f 0 d
theorem res_take {l : List Bool} {d : Nat} (hd : d ≤ l.length) : res (l.take d) = resOf (cyc l) d := by
  have hl : (l.take d).length = d := by rw [List.length_take]; omega
  unfold res resOf
  rw [hl]
  refine fil_cong fun x h1 h2 => ?_
  have e : x = ((x.toNat : Nat) : Int) := by omega
  have q := cyc_lt (l := l) (k := x.toNat) (by omega)
  rw [← e] at q
  rw [q, List.getD_eq_getElem?_getD, List.getD_eq_getElem?_getD, List.getElem?_take, if_pos (by omega)]
/-- the made lot, or the error -/
def LotEnd (K : PySem.W.Frag) (T : Tl) (H : Hp) (Q : VK) (E : XK) : Prop :=
  (∀ p lo hi d H', IsForm T.has T.U T.D lo hi d → -20000 ≤ lo → hi ≤ 20000 → Same H H' → LotAt (He.ga K "Lot") H' p lo hi (insOf T lo hi) d (resOf T.U d) (resOf T.D d) → Q (.ref p) H') ∧
  (∀ lo hi d dd H', IsForm T.has T.U T.D lo hi d → (lo < -20000 ∨ 20000 < hi) → Same H H' → H' dd = some (.xd [("most", .int 20000)]) → E (.ref (He.ga K "TooLong")) (some dd) H')
theorem LotEnd.same {K : PySem.W.Frag} {T : Tl} {H H' : Hp} {Q : VK} {E : XK} (s : Same H H') (h : LotEnd K T H Q E) : LotEnd K T H' Q E :=
  ⟨fun p lo hi d H2 f a b s2 l => h.1 p lo hi d H2 f a b (s.trans s2) l, fun lo hi d dd H2 f a s2 e => h.2 lo hi d dd H2 f a (s.trans s2) e⟩
def spLotOf (K : PySem.W.Frag) : Sp := fun vs H Q E => ∃ (T : Tl) (a b c : Addr) (ins us ds : List Int), vs = [.int T.lo, .int T.hi, .ref a, .int T.us.length, .ref b, .ref c] ∧ T.Near ∧ T.cs.length < 60000 ∧ Told T ins us ds ∧ SqA H a (ins.map V.int) ∧ SqA H b (us.map V.int) ∧ SqA H c (ds.map V.int) ∧ LotEnd K T H Q E
abbrev s_lotof : Stmt := top 18
abbrev N_lotof : List Str := ["low", "high", "inside", "modulus", "ups", "downs", "ups_flags", "downs_flags", "core", "top", "bottom", "number"]
theorem sc_lotof : FnScope N_lotof ["low", "high", "inside", "modulus", "ups", "downs"] (defScope s_lotof) := ⟨rfl, rfl, rfl, by decide +kernel, rfl, by decide +kernel, by decide +kernel⟩
/-- what the walks ask of the class Lot and of TooLong -/
structure Lots (P : Program) (w : World) (K : PySem.W.Frag) (mg : Str → Option Value) (base : Heap) : Prop where
  t : LotTxt K mg (He.ga K "Lot")
  m : Mk K (He.ga K "Lot") (He.ma K (He.ga K "Lot") "__init__")
  i : KeepsM P w K mg base (He.ma K (He.ga K "Lot") "__init__") 1 ["self", "low", "high", "inside", "modulus", "ups", "downs"] (spLotI (He.ga K "Lot"))
  xt : ExF K mg "TooLong" "BookError" ["most"]
  xi : KeepsI P w K mg base "TooLong" ["most"]
theorem pmk_tl {X : Cx} {k : Nat} {e : Expr} {es : List Expr} {ta : TA} {p pos : Pos} (S : Lots X.prog X.w X.K X.mg X.base) (hr : Room (k + 2) X.A) (hg : Gl X "TooLong") (ha : PA X (e :: es) ta)
    (dbg : (("TooLong" : Str) == ("__debug__" : Str)) = false := by decide) (hst : starEach (e :: es) X.env = (false, eval e X.env) :: starEach es X.env := by rfl) (hpl : (backTo pos (starEach es X.env)).any (·.1) = false := by rfl) :
    PMk X (.Call (.Name "TooLong" p) (e :: es) [] pos) (tMkO (He.ga X.K "TooLong") (spIni (He.ga X.K "TooLong") ["most"]) [] ta) := by
  obtain ⟨fd, F, b⟩ := S.xi
  obtain ⟨iC, tI⟩ := S.xt.ini (fun z => nomatch z)
  exact pmk_oex S.xt.ox iC tI F (hr.mono (by omega)) b .nil pass0 hg S.xt.g ha dbg hst hpl
/-- the reading of the making, with the way out -/
theorem mko_ok {K : PySem.W.Frag} {C : Addr} {fs : List Str} {ta : TA} {σ : L2.St} {H : Hp} {W : XK} {ys : List V} (ht : ∀ Q : List V → Hp → Prop, Q ys H → ta σ H Q) (hl : ys.length = fs.length) (h9 : ys.length ≤ 1000)
    (hW : ∀ d H', Same H H' → H' d = some (.xd (fs.zip ys).reverse) → W (.ref C) (some d) H') : tMkO C (spIni C fs) [] ta σ H W := by
  refine ht _ ⟨h9, fun a ha => ⟨a, ys, (by rw [List.append_nil]), hl, upd_same, fun d H' hd hne e1 e2 k1 => ⟨rfl, d, _, e1, e2, ?_, ?_⟩⟩⟩
  · rw [upd_ne hne] at hd
    exact hd
  · refine hW d _ (fun b o z => ?_) upd_same
    have nba : b ≠ a := ne_of_none z ha
    have nbd : b ≠ d := fun q => by
      rw [upd_ne hne] at hd
      rw [q, hd] at z
      cases z
    rw [upd_ne nbd, del_ne nba]
    exact k1 b o nba (by rw [upd_ne nba]; exact z)
section
variable {P : Program} {w : World} {K : PySem.W.Frag} {mg : Str → Option Value} {base : Heap}
theorem kp_lotof (F : At K mg "_lot_of" s_lotof) (N : Nb mg) (S : Lots P w K mg base) (mF : ∃ t, mg "FARTHEST" = some (.int 20000 t)) (Gf : Keeps CX0 P w K mg base "_flags" 1 ["low", "high", "numbers"] spFlags) (Gm : Keeps CX0 P w K mg base "_least_modulus" 2 ["ups", "downs"] spLM)
    (Gg : Keeps CX0 P w K mg base "_greatest_wrong" 1 ["low", "core", "ups", "downs"] spGW) (Gl_ : Keeps CX0 P w K mg base "_least_wrong" 1 ["low", "core", "ups", "downs"] spLW) (Gp : Keeps CX0 P w K mg base "_places_of" 1 ["flags"] spPlaces) :
    Keeps (CX P w) P w K mg base "_lot_of" 3 ["low", "high", "inside", "modulus", "ups", "downs"] (spLotOf K) := by
  refine keeps_ofX F sc_lotof (fun _ _ _ _ _ _ us hl => match us, hl with | [_, _, _, _, _, _], _ => rfl) (fun vs H Q E h => ?_) (fun f cdv A outer s H vs Q E hr h => ?_)
  · obtain ⟨T, a, b, c, ins, us, ds, rfl, _⟩ := h
    rfl
  · obtain ⟨T, a, b, c, ins, us, ds, rfl, near, hc9, told, ha, hb, hc, k⟩ := h
    obtain ⟨fdI, FI, bI⟩ := S.i
    obtain ⟨tF, mF⟩ := mF
    have hu := hu_of hr
    have hm := near.ok.pos
    have hm1 := near.m
    have hlo := near.lo
    have hhi : T.hi = T.lo + T.cs.length - 1 := rfl
    obtain ⟨tl, dtl, tail⟩ : ∃ tl, PSs (cxOf (CX P w) P w K mg base N_lotof "_lot_of" (defScope s_lotof) f cdv A outer s H E) ((defBody s_lotof).drop 8) tl ∧ ∀ (H1 : Hp) (lo hi : Int) (d : Nat) (p3 q1 q2 : Addr), IsForm T.has T.U T.D lo hi d → d ≤ T.us.length → -(3 * 10 ^ 31) ≤ lo → lo ≤ 3 * 10 ^ 31 → -(3 * 10 ^ 31) ≤ hi → hi ≤ 3 * 10 ^ 31 → hi + 1 - lo < 60000 →
        (∀ n, lo ≤ n → n ≤ hi → T.lo ≤ n ∧ n ≤ T.hi) → Same H H1 → H1 p3 = some (.lst (T.cs.map V.bl)) → H1 q1 = some (.lst ((T.us.take d).map V.bl)) → H1 q2 = some (.lst ((T.ds.take d).map V.bl)) →
        tl { nx := fun _ H' => Q .non H', rt := Q } [some (V.int T.lo), some (V.int T.hi), some (V.ref a), some (V.int d), some (V.ref b), some (V.ref c), some (V.ref q1), some (V.ref q2), some (V.ref p3), some (V.int hi), some (V.int lo), none] H1 := by
      refine ⟨_, (pss_cons (ps_if (PW.pt (pw_or (pt_cmpR op_lt (pv 10) (pe_un un_neg (pe_glob (v := .int 20000) (by rfl) mF ⟨_, rfl⟩)) (nomark _)) (pw_or1 (pt_cmpR op_gt (pv 9) (pe_glob (v := .int 20000) (by rfl) mF ⟨_, rfl⟩) (nomark _))))) (pss_one (ps_raise rfl (takes_of rfl rfl rfl rfl) (by exact pmk_tl S hr (by rfl) (pa_cons (pe_glob (v := .int 20000) (by rfl) mF ⟨_, rfl⟩) pa_nil)))) pss_nil)
        (pss_cons (ps_setLc (i := 2) (own := [("number", 11)]) (g := gName 11) rfl sc_lotof.nd rfl rfl (sw_true rfl rfl rfl (by decide +kernel)) (pi_range2 (by rfl) N.range (pa_cons (pv 10) (pa_cons (pe_op op_add (pv 9) pe_int) pa_nil))) (blkOk_by (N := N_lotof) (sc := defScope s_lotof) (by decide +kernel)) (fun _ _ _ _ _ => (pg_name (i := 11) sc_lotof.nd rfl (by walk_at "lv"))) (fun _ _ _ _ _ => (pts_one (pt_val (pe_ix ix_list (r := rIxL K) (pv 8) (pe_op op_sub (pv 11) (pv 0)) (fun _ _ => rfl))))) (fun _ _ _ _ _ => (pv 11)))
        (pss_one (ps_ret (pe_make S.m FI (hr.mono (by decide)) (by rfl) S.t.mgC bI .nil pass0 (pa_cons (pv 10) (pa_cons (pv 9) (pa_cons (pv 2) (pa_cons (pv 3) (pa_cons (pe_k Gp (hr.mono (by decide)) (by rfl) pass0 (pa_cons (pv 6) pa_nil)) (pa_cons (pe_k Gp (hr.mono (by decide)) (by rfl) pass0 (pa_cons (pv 7) pa_nil)) pa_nil))))))))))), ?_⟩
      intro H1 lo hi d p3 q1 q2 fm hd b1 b2 b3 b4 b5 sub s1 e3 e1 e2
      refine ⟨_, rfl, _, rfl, _, _, rfl, rfl, _, rfl, ?_⟩
      have boom : (lo < -20000 ∨ 20000 < hi) → tMkO (He.ga K "TooLong") (spIni (He.ga K "TooLong") ["most"]) [] (tCons (tC (.int 20000)) tNil) [some (V.int T.lo), some (V.int T.hi), some (V.ref a), some (V.int d), some (V.ref b), some (V.ref c), some (V.ref q1), some (V.ref q2), some (V.ref p3), some (V.int hi), some (V.int lo), none] H1 (fun cls d H' => E cls d H') := fun hx =>
        mko_ok (K := K) (ys := [.int 20000]) (fun _ q => q) rfl (by show 1 ≤ 1000; decide) fun dd H' s2 ed => k.2 lo hi d dd H' fm hx (s1.trans s2) ed
      refine ite2 (fun h1 => boom (.inl (of_decide_eq_true h1))) (fun h1 => ?_)
      have h1 : ¬ lo < -20000 := fun z => h1 (decide_eq_true z)
      refine ⟨_, rfl, _, _, rfl, rfl, _, rfl, ?_⟩
      refine ite2 (fun h2 => boom (.inr (of_decide_eq_true h2))) (fun h2 => ?_)
      have h2 : ¬ 20000 < hi := fun z => h2 (decide_eq_true z)
      have hz := fm.size
      refine ⟨_, rfl, _, rfl, _, _, rfl, rfl, _, _, rfl, ⟨by omega, by omega, by omega, by omega⟩, fun D hD => ?_⟩
      refine lc_itF (G := fun _ => True) walk_range hD (fun i => (fil T.has lo i).map V.int) rfl (fun i hi' => smallB (by rw [List.length_map]; exact Nat.le_trans (fil_len _ _ _) (by omega))) (fun _ _ => trivial) ?_ ?_ ?_ ?_ ?_
      · rintro i x H2 H3 hi' eD s2 ⟨rfl, rfl⟩
        have sb := sub (lo + (i : Int)) (by omega) (by omega)
        have g : atI (T.cs.map V.bl) (lo + (i : Int) - T.lo) = some (.bl (T.has (lo + (i : Int)))) := by
          rw [blI_get (by omega) (by omega), Tl.core sb.1 sb.2]
        refine ⟨rfl, _, rfl, _, rfl, _, rfl, _, _, rfl, rfl, p3, _, _, _, rfl, rfl, SqL.of (s2 _ _ e3), g, _, rfl, ?_⟩
        cases hb' : T.has (lo + (i : Int)) with
        | false =>
          refine iteF ⟨eD, s2, ?_⟩
          rw [fil_neg (by rw [hb']; exact Bool.false_ne_true)]
        | true =>
          refine iteT ⟨_, rfl, eD, s2, ?_⟩
          rw [fil_pos hb', List.map_append]
          rfl
      · exact fun x H' Q Q' h q => h _ _ q
      · rintro σ2 H2 Q1 Q2 h ⟨x1, h1, x2, h2, x3, h3, i, j, f1, f2, p, xs, ii, v, f3, f4, sq, at_, k, ek, q⟩
        exact ⟨x1, h1, x2, h2, x3, h3, i, j, f1, f2, p, xs, ii, v, f3, f4, sq, at_, k, ek, h _ _ q⟩
      · rintro σ2 H2 Q1 Q2 h ⟨v, hv, q⟩
        exact ⟨v, hv, h _ _ q⟩
      · intro H4 eD s4
        have ht : ∀ l : List Bool, (l.take d).length ≤ d := fun l => by rw [List.length_take]; omega
        have htu := ht T.us
        have htd := ht T.ds
        refine ⟨_, rfl, _, rfl, _, rfl, _, rfl, _, rfl, q1, T.us.take d, rfl, s4 _ _ e1, by omega, fun r1 H5 n5 s5 e5 => ?_⟩
        refine ⟨_, rfl, q2, T.ds.take d, rfl, s5 _ _ (s4 _ _ e2), by omega, fun r2 H6 n6 s6 e6 => ?_⟩
        intro x dx hx hdx ne
        have sx : ∀ b o, H6 b = some o → (upd (upd H6 dx (.own x)) x (.ins (He.ga K "Lot") dx [])) b = some o := fun b o e => by
          rw [upd_ne (ne_of_none e hx), upd_ne (ne_of_none e hdx)]
          exact e
        refine ⟨x, dx, D, r1, r2, lo, hi, d, insOf T lo hi, resOf T.U d, resOf T.D d, rfl, upd_same, sx _ _ (s6 _ _ (s5 _ _ eD)), ?_, ?_, fun H7 la keep => ⟨rfl, ?_⟩⟩
        · refine sx _ _ (s6 _ _ ?_)
          rw [e5, res_take hd]
          rfl
        · refine sx _ _ ?_
          rw [e6, res_take (by rw [near.ok.len]; exact hd)]
          rfl
        · refine k.1 x lo hi d H7 fm (by omega) (by omega) (fun b o e => ?_) la
          have e' := s6 _ _ (s5 _ _ (s4 _ _ (s1 _ _ e)))
          exact keep b o (ne_of_none e' hx) (sx _ _ e')
    refine ⟨_, (pss_cons (ps_set (i := 6) sc_lotof.nd rfl (by walk_at "lv") (pe_k Gf (hr.mono (by decide)) (by rfl) pass0 (pa_cons pe_int (pa_cons (pe_op op_sub (pv 3) pe_int) (pa_cons (pv 4) pa_nil)))))
        (pss_cons (ps_set (i := 7) sc_lotof.nd rfl (by walk_at "lv") (pe_k Gf (hr.mono (by decide)) (by rfl) pass0 (pa_cons pe_int (pa_cons (pe_op op_sub (pv 3) pe_int) (pa_cons (pv 5) pa_nil)))))
        (pss_cons (ps_set (i := 8) sc_lotof.nd rfl (by walk_at "lv") (pe_k Gf (hr.mono (by decide)) (by rfl) pass0 (pa_cons (pv 0) (pa_cons (pv 1) (pa_cons (pv 2) pa_nil)))))
        (pss_cons (ps_set (i := 3) sc_lotof.nd rfl (by walk_at "lv") (pe_k Gm hr (by rfl) pass0 (pa_cons (pv 6) (pa_cons (pv 7) pa_nil))))
        (pss_cons (ps_set (i := 6) sc_lotof.nd rfl (by walk_at "lv") (pe_slice sl_list (pv 6) po_none (po_some (pv 3))))
        (pss_cons (ps_set (i := 7) sc_lotof.nd rfl (by walk_at "lv") (pe_slice sl_list (pv 7) po_none (po_some (pv 3))))
        (pss_cons (ps_set (i := 9) sc_lotof.nd rfl (by walk_at "lv") (pe_k Gg (hr.mono (by decide)) (by rfl) pass0 (pa_cons (pv 0) (pa_cons (pv 8) (pa_cons (pv 6) (pa_cons (pv 7) pa_nil))))))
        (pss_cons (ps_if (pt_cmpR op_isN (pv 9) pe_non (nomark _)) (pss_one (ps_asg (pe_tup (pa_cons pe_int (pa_cons (pe_un un_neg pe_int) pa_nil))) (pg_tup (by rfl) (pgs_cons (pg_name (i := 10) sc_lotof.nd rfl (by walk_at "lv")) (pgs_cons (pg_name (i := 9) sc_lotof.nd rfl (by walk_at "lv")) pgs_nil))))) (pss_one (ps_set (i := 10) sc_lotof.nd rfl (by walk_at "lv") (pe_callB (call_min2 rfl) (by rfl) N.min (by decide +kernel) (pa_cons (pe_k Gl_ (hr.mono (by decide)) (by rfl) pass0 (pa_cons (pv 0) (pa_cons (pv 8) (pa_cons (pv 6) (pa_cons (pv 7) pa_nil))))) (pa_cons (pe_op op_add (pv 9) pe_int) pa_nil))))))
        dtl)))))))), ?_⟩
    refine ⟨_, rfl, _, _, rfl, rfl, _, rfl, b, us, _, _, rfl, hb, by omega, by omega, by omega, by omega, told.u, fun p1 bs1 H1 n1 s1 e1 l1 g1 => ?_⟩
    have eb1 : bs1 = T.us := getD_ext (by omega) fun k hk => by rw [g1 k hk, told.uc k (by omega)]
    subst eb1
    refine ⟨_, rfl, _, _, rfl, rfl, _, rfl, c, ds, _, _, rfl, hc.same s1, by omega, by omega, by omega, by omega, told.d, fun p2 bs2 H2 n2 s2 e2 l2 g2 => ?_⟩
    have eb2 : bs2 = T.ds := getD_ext (by rw [near.ok.len]; omega) fun k hk => by rw [g2 k hk, told.dc k (by omega)]
    subst eb2
    refine ⟨_, rfl, _, rfl, _, rfl, a, ins, _, _, rfl, (ha.same s1).same s2, by omega, by omega, by omega, by omega, told.i, fun p3 bs3 H3 n3 s3 e3 l3 g3 => ?_⟩
    have eb3 : bs3 = T.cs := getD_ext (by omega) fun k hk => by rw [g3 k hk, told.ic k (by omega)]
    subst eb3
    refine ⟨_, rfl, _, rfl, p1, p2, T.us, T.ds, rfl, s3 _ _ (s2 _ _ e1), s3 _ _ e2, near.ok.len, hm, hm1, fun H4 d s4 ld hd => ?_⟩
    have cut : ∀ l : List Bool, d ≤ l.length → cutV (l.map V.bl) none (some (d : Int)) = (l.take d).map V.bl := fun l hl => by
      unfold cutV
      rw [HT.sIx_none, HT.sIx_nat, List.drop_zero, List.length_map, Nat.min_eq_left hl, List.map_take]
      rfl
    refine ⟨_, rfl, _, rfl, _, rfl, p1, _, rfl, SqL.of (s4 _ _ (s3 _ _ (s2 _ _ e1))), fun q1 hq1 => ?_⟩
    rw [cut _ hd]
    have s5 := same_new (o := .lst ((T.us.take d).map V.bl)) s4 hq1
    refine ⟨_, rfl, _, rfl, _, rfl, p2, _, rfl, SqL.of (s5 _ _ (s3 _ _ e2)), fun q2 hq2 => ?_⟩
    rw [cut _ (by rw [near.ok.len]; exact hd)]
    have s6 := same_new (o := .lst ((T.ds.take d).map V.bl)) s5 hq2
    have s36 : Same H _ := (s1.trans (s2.trans s3)).trans s6
    have hq12 : q1 ≠ q2 := ne_of_none upd_same hq2
    have d0 := ld.pos
    have eU : cyc (T.us.take d) = cyc T.us := cyc_take d0 hd ld.pu
    have eD : cyc (T.ds.take d) = cyc T.ds := cyc_take d0 (by rw [near.ok.len]; exact hd) ld.pd
    have eH : (Tl.mk T.lo T.cs (T.us.take d) (T.ds.take d)).has = T.has := by
      funext n
      unfold Tl.has Tl.U Tl.D
      simp only [eU, eD]
      rfl
    have lu : (T.us.take d).length = d := by rw [List.length_take]; omega
    have lds : (T.ds.take d).length = d := by rw [List.length_take, near.ok.len]; omega
    have near' : (Tl.mk T.lo T.cs (T.us.take d) (T.ds.take d)).Near := ⟨⟨by show (T.ds.take d).length = (T.us.take d).length; rw [lu, lds], by show 0 < (T.us.take d).length; rw [lu]; exact d0⟩, by show (T.us.take d).length ≤ 60000; omega, near.c, near.lo⟩
    have at' : TlAt (upd (upd H4 q1 (.lst ((T.us.take d).map V.bl))) q2 (.lst ((T.ds.take d).map V.bl))) (Tl.mk T.lo T.cs (T.us.take d) (T.ds.take d)) p3 q1 q2 := ⟨s6 _ _ e3, by rw [upd_ne hq12]; exact upd_same, upd_same⟩
    refine ⟨_, rfl, _, rfl, _, rfl, _, rfl, Tl.mk T.lo T.cs (T.us.take d) (T.ds.take d), p3, q1, q2, rfl, at', near', fun no => ?_, fun v h1 h2 h3 => ?_⟩
    · have no' : ∀ n, T.has n = T.U n := fun n => by
        have := no n
        rw [eH] at this
        rw [this]
        show cyc (T.us.take d) n = cyc T.us n
        rw [eU]
      refine ⟨_, rfl, rfl, _, rfl, iteT ?_⟩
      refine ⟨_, rfl, ⟨(by show 2 ≤ sizeLine; decide), fun t ht => ⟨t, _, rfl, SqT.of upd_same, rfl, _, _, rfl, _, _, rfl, rfl, ?_⟩⟩⟩
      have s7 := same_new (o := .tup [V.int 0, V.int (-1)]) s36 ht
      have st := same_new (o := .tup [V.int 0, V.int (-1)]) (Same.refl _) ht
      exact tail _ 0 (-1) d p3 q1 q2 (form_none near.ok ld no') hd (by omega) (by omega) (by omega) (by omega) (by omega) (fun n h1 h2 => by omega) s7 (st _ _ at'.cs) (st _ _ at'.us) (st _ _ at'.ds)
    · have h1' : T.has v ≠ T.U v := fun z => h1 (by
        rw [eH, z]
        show cyc T.us v = cyc (T.us.take d) v
        rw [eU])
      have h2' : ∀ n, v < n → T.has n = T.U n := fun n hn => by
        have := h2 n hn
        rw [eH] at this
        rw [this]
        show cyc (T.us.take d) n = cyc T.us n
        rw [eU]
      have h3' : v ≤ T.hi := h3
      refine ⟨_, rfl, rfl, _, rfl, iteF ?_⟩
      refine ⟨_, rfl, _, rfl, _, rfl, _, rfl, Tl.mk T.lo T.cs (T.us.take d) (T.ds.take d), p3, q1, q2, rfl, at', near', ⟨v, h1⟩, fun b H7 s7 b1 b2 b3 => ?_⟩
      refine ⟨_, rfl, _, _, rfl, rfl, _, _, rfl, ?_⟩
      have b1' : T.has b ≠ T.D b := fun z => b1 (by
        rw [eH, z]
        show cyc T.ds b = cyc (T.ds.take d) b
        rw [eD])
      have b2' : ∀ n, n < b → T.has n = T.D n := fun n hn => by
        have := b2 n hn
        rw [eH] at this
        rw [this]
        show cyc (T.ds.take d) n = cyc T.ds n
        rw [eD]
      have b3' : T.lo ≤ b := b3
      have vlo : T.lo - T.m ≤ v := by
        rcases Int.lt_or_le v (T.lo - T.m) with q | q
        · refine absurd ?_ h1'
          have hm2 : (0 : Int) < (T.m : Int) := by unfold Tl.m; omega
          have q1 := h2' (v + T.m) (by omega)
          rw [Tl.below (by omega), near.ok.pd, near.ok.pu] at q1
          rw [Tl.below (by omega)]
          exact q1
        · exact q
      have hmm : T.m = T.us.length := rfl
      have fm := form_some ld h1' h2' b1' b2'
      refine tail H7 (if v + 1 < b then v + 1 else b) v d p3 q1 q2 fm hd ?_ ?_ (by omega) (by omega) ?_ ?_ (s36.trans s7) (s7 _ _ at'.cs) (s7 _ _ at'.us) (s7 _ _ at'.ds)
      · split <;> omega
      · split <;> omega
      · split <;> omega
      · intro n hn1 hn2
        split at hn1 <;> omega
end
end My
set_option Elab.async false
set_option linter.all false
set_option maxRecDepth 100000
set_option maxHeartbeats 8000000
namespace My
open PySem PySem.Spec PyProof.Rows L2
local macro_rules | `(tactic| walk_at "lv") => `(tactic| first | exact Or.inl rfl | exact Or.inr rfl)
theorem log_small {n : Nat} (h : n ≤ 60000) : (n : Int).natAbs.log2 < 9000 := by
  have h2 : (n : Int).natAbs < 2 ^ 16 := by omega
  rcases Nat.eq_zero_or_pos (n : Int).natAbs with h0 | h0
  · rw [h0]; decide
  · have := (Nat.log2_lt (by omega)).mpr h2
    omega
section
variable {P : Program} {w : World} {K : PySem.W.Frag} {mg : Str → Option Value} {base : Heap}
/-! ### _law_whole -/
abbrev s_lwh : Stmt := top 54
abbrev N_lwh : List Str := ["_law_thing"]
theorem sc_lwh : FnScope N_lwh ["_law_thing"] (defScope s_lwh) := ⟨rfl, rfl, rfl, by decide +kernel, rfl, by decide +kernel, by decide +kernel⟩
theorem kp_lwh (F : At K mg "_law_whole" s_lwh) (N : Nb mg) : Keeps CX0 P w K mg base "_law_whole" 1 ["_law_thing"] spWhole := by
  refine keeps_of F sc_lwh (fun _ _ _ _ _ _ us hl => match us, hl with | [_], _ => rfl) (fun vs H Q E h => ?_) (fun f cdv A outer s H vs Q E hr h => ?_)
  · obtain ⟨a, rfl, _⟩ := h
    rfl
  · obtain ⟨a, rfl, k⟩ := h
    refine ⟨_, (pss_one (ps_ret (pe_and (pe_callB call_isi (by rfl) N.isinstance boot_isinstance (pa_cons (pv 0) (pa_cons (pe_bltn (v := .ty "int") (by rfl) N.int (by decide +kernel) rfl) pa_nil))) (pe_one (pe_not (pe_callB call_isi (by rfl) N.isinstance boot_isinstance (pa_cons (pv 0) (pa_cons (pe_bltn (v := .ty "bool") (by rfl) N.bool (by decide +kernel) rfl) pa_nil)))))))), ?_⟩
    refine ⟨_, rfl, .int a, .ty "int", _, _, true, rfl, .ty "int", .base (.int a), kit_ty (by decide +kernel), _, rfl, ?_⟩
    exact ⟨_, rfl, .int a, .ty "bool", _, _, false, rfl, .ty "bool", .base (.int a), kit_ty (by decide +kernel), _, rfl, k⟩
/-! ### _law_row_of -/
/-! ### _law_turned -/
theorem HandC.ne {H : Hp} {p c q : Addr} (h : HandC H p c) (hq : H q = none) : p ≠ q ∧ c ≠ q := by
  obtain ⟨_, _, _, _, h1, h2, _⟩ := h
  exact ⟨ne_of_none h1 hq, ne_of_none h2 hq⟩
theorem HandC.upd {H : Hp} {p c q : Addr} {o : HO} (h : HandC H p c) (h1 : p ≠ q) (h2 : c ≠ q) : HandC (upd H q o) p c := by
  obtain ⟨cs, i, r, t, e1, e2, e3⟩ := h
  exact ⟨cs, i, r, t, by rw [upd_ne h1]; exact e1, by rw [upd_ne h2]; exact e2, e3⟩
theorem HandC.same {H H' : Hp} {p c : Addr} (s : Same H H') (h : HandC H p c) : HandC H' p c := by
  obtain ⟨cs, i, r, t, e1, e2, e3⟩ := h
  exact ⟨cs, i, r, t, s _ _ e1, s _ _ e2, e3⟩
theorem But.of {p : Addr} {H H' : Hp} (s : Same H H') : But p H H' := fun b o _ e => s b o e
theorem But.trans {p : Addr} {H H1 H2 : Hp} (a : But p H H1) (b : But p H1 H2) : But p H H2 := fun c o hc e => b c o hc (a c o hc e)
/-! ### _law_has -/
/-- [k for k in range(n) if xs[k]] -/
theorem lc_res {σ : L2.St} {H : Hp} {Q : VK} {i j l m : Nat} {a : Addr} {bs : List Bool} (hj : σ[j]? = some (some (.int (m : Int)))) (hm : m ≤ bs.length) (hm2 : m ≤ 60000) (ha : H a = some (.lst (bs.map V.bl))) (hl : ∀ v, ((wipe σ [i]).set i (some v))[l]? = some (some (.ref a)))
    (hi : ∀ v, ((wipe σ [i]).set i (some v))[i]? = some (some v)) (hw : ∀ v, wipe ((wipe σ [i]).set i (some v)) [i] = wipe σ [i])
    (k : ∀ D H', Same H H' → H D = none → H' D = some (.lst ((fil (fun k => bs.getD k.toNat false) 0 m).map V.int)) → Q (.ref D) H') :
    tLc (iRng1 (tCons (tVar j) tNil)) (gName i) (tB (tOp (rIxL K) (tVar l) (tVar i))) (tVar i) [i] σ H Q := by
  refine ⟨_, hj, _, rfl, by omega, by omega, fun D hD => ?_⟩
  rw [show ((m : Int)).toNat = m by omega]
  refine lc_itF (G := fun _ => True) walk_range hD (fun x => (fil (fun k => bs.getD k.toNat false) 0 x).map V.int) rfl (fun x hx => smallB (by rw [List.length_map]; exact Nat.le_trans (fil_len _ _ _) (by omega))) (fun _ _ => trivial) ?_ ?_ ?_ ?_ (fun H' e s => k D H' s hD e)
  · rintro x v H2 H3 hx e s ⟨rfl, rfl⟩
    refine ⟨hw _, _, hl _, _, hi _, a, _, _, _, rfl, rfl, SqL.of (s _ _ ha), blI_get (i := 0 + (x : Int)) (by omega) (by omega), _, rfl, ?_⟩
    cases hb : bs.getD (0 + (x : Int)).toNat false with
    | false =>
      refine iteF ⟨e, s, ?_⟩
      rw [fil_neg (by rw [hb]; exact Bool.false_ne_true)]
    | true =>
      refine iteT ⟨_, hi _, e, s, ?_⟩
      rw [fil_pos hb, List.map_append]
      rfl
  · exact fun x H' Q Q' h q => h _ _ q
  · rintro σ2 H2 Q1 Q2 h ⟨x1, h1, x2, h2, p, xs, ii, v, f3, f4, sq, at_, k, ek, q⟩
    exact ⟨x1, h1, x2, h2, p, xs, ii, v, f3, f4, sq, at_, k, ek, h _ _ q⟩
  · rintro σ2 H2 Q1 Q2 h ⟨v, hv, q⟩
    exact ⟨v, hv, h _ _ q⟩
/-! ### _law_parts -/
end
end My
set_option Elab.async false
set_option linter.all false
set_option maxRecDepth 100000
set_option maxHeartbeats 8000000
namespace My
open PySem PySem.Spec PyProof.Rows L2
local macro_rules | `(tactic| walk_at "lv") => `(tactic| first | exact Or.inl rfl | exact Or.inr rfl)
section
variable {P : Program} {w : World} {K : PySem.W.Frag} {mg : Str → Option Value} {base : Heap}
/-! ### _law_seen -/
/-! ### _law_is_form -/
structure RowsOk (lo hi : Int) (ins : List Int) (m : Nat) (us ds : List Int) : Prop where
  i : ins.Pairwise (· < ·)
  ib : ∀ n ∈ ins, lo ≤ n ∧ n ≤ hi
  u : us.Pairwise (· < ·)
  ub : ∀ n ∈ us, 0 ≤ n ∧ n ≤ (m : Int) - 1
  d : ds.Pairwise (· < ·)
  db : ∀ n ∈ ds, 0 ≤ n ∧ n ≤ (m : Int) - 1
/-! ### make_lot -/
def spMake (K : PySem.W.Frag) : Sp := fun vs H Q E => ∃ (T : Tl) (a b c : Addr) (ins us ds : List Int), vs = [.int T.lo, .int T.hi, .ref a, .int T.us.length, .ref b, .ref c] ∧ T.Near ∧ (T.cs.length < 60000 ∧ T.us.length ≤ 10080) ∧ -20000 ≤ T.lo ∧ T.hi ≤ 20000 ∧ Told T ins us ds ∧ (ins.Nodup ∧ us.Nodup ∧ ds.Nodup) ∧ (ins.length ≤ 60000 ∧ us.length ≤ 60000 ∧ ds.length ≤ 60000) ∧
  SqA H a (ins.map V.int) ∧ SqA H b (us.map V.int) ∧ SqA H c (ds.map V.int) ∧ LotEnd K T H Q E
abbrev s_make : Stmt := top 15
abbrev N_make : List Str := ["low", "high", "inside", "modulus", "ups", "downs"]
theorem sc_make : FnScope N_make ["low", "high", "inside", "modulus", "ups", "downs"] (defScope s_make) := ⟨rfl, rfl, rfl, by decide +kernel, rfl, by decide +kernel, by decide +kernel⟩
theorem kp_make (F : At K mg "make_lot" s_make) (mM : ∃ t, mg "MOST_MODULUS" = some (.int 10080 t)) (Gc : Keeps CX0 P w K mg base "_check_core" 2 ["low", "high"] spCore) (Gu : Keeps CX0 P w K mg base "_are_unlike_from" 3 ["numbers", "low", "high"] spUnl)
    (Gw : Keeps CX0 P w K mg base "is_whole_from" 2 ["thing", "low", "high"] spWholeF) (Gl_ : Keeps (CX P w) P w K mg base "_lot_of" 3 ["low", "high", "inside", "modulus", "ups", "downs"] (spLotOf K)) :
    Keeps (CX P w) P w K mg base "make_lot" 4 ["low", "high", "inside", "modulus", "ups", "downs"] (spMake K) := by
  refine keeps_ofX F sc_make (fun _ _ _ _ _ _ us hl => match us, hl with | [_, _, _, _, _, _], _ => rfl) (fun vs H Q E h => ?_) (fun f cdv A outer s H vs Q E hr h => ?_)
  · obtain ⟨T, a, b, c, ins, us, ds, rfl, _⟩ := h
    rfl
  · obtain ⟨T, a, b, c, ins, us, ds, rfl, near, ⟨hc9, h10⟩, b1, b2, told, nd, ln, ha, hb, hc, k⟩ := h
    obtain ⟨tM, mM⟩ := mM
    have hm := near.ok.pos
    have hm1 := near.m
    have hhi : T.hi = T.lo + T.cs.length - 1 := rfl
    refine ⟨_, (pss_cons (ps_expr (pe_k Gc (hr.mono (by decide)) (by rfl) pass0 (pa_cons (pv 0) (pa_cons (pv 1) pa_nil))))
        (pss_cons (ps_if (pt_not (pt_val (pe_k Gu hr (by rfl) pass0 (pa_cons (pv 2) (pa_cons (pv 0) (pa_cons (pv 1) pa_nil)))))) (pss_one ps_never) pss_nil)
        (pss_cons (ps_if (pt_not (pt_val (pe_k Gw (hr.mono (by decide)) (by rfl) pass0 (pa_cons (pv 3) (pa_cons pe_int (pa_cons (pe_glob (v := .int 10080) (by rfl) mM ⟨_, rfl⟩) pa_nil)))))) (pss_one ps_never) pss_nil)
        (pss_cons (ps_if (pt_not (pt_val (pe_k Gu hr (by rfl) pass0 (pa_cons (pv 4) (pa_cons pe_int (pa_cons (pe_op op_sub (pv 3) pe_int) pa_nil)))))) (pss_one ps_never) pss_nil)
        (pss_cons (ps_if (pt_not (pt_val (pe_k Gu hr (by rfl) pass0 (pa_cons (pv 5) (pa_cons pe_int (pa_cons (pe_op op_sub (pv 3) pe_int) pa_nil)))))) (pss_one ps_never) pss_nil)
        (pss_one (ps_ret (pe_k Gl_ hr (by rfl) (passes_call (takes_of rfl rfl rfl rfl) (fun _ _ _ _ h => h)) (pa_cons (pv 0) (pa_cons (pv 1) (pa_cons (pv 2) (pa_cons (pv 3) (pa_cons (pv 4) (pa_cons (pv 5) pa_nil)))))))))))))), ?_⟩
    refine ⟨_, rfl, _, rfl, T.lo, T.hi, rfl, b1, b2, by omega, ?_⟩
    refine ⟨_, rfl, _, rfl, _, rfl, a, ins, T.lo, T.hi, rfl, ha, nd.1, ln.1, told.i, fun H1 s1 => ⟨_, rfl, iteF ?_⟩⟩
    refine ⟨_, rfl, (T.us.length : Int), 1, 10080, rfl, ?_⟩
    rw [decide_eq_true (by omega : (1 : Int) ≤ (T.us.length : Int)), decide_eq_true (by omega : (T.us.length : Int) ≤ 10080)]
    refine ⟨_, rfl, iteF ?_⟩
    refine ⟨_, rfl, _, rfl, _, _, rfl, rfl, b, us, 0, _, rfl, hb.same s1, nd.2.1, ln.2.1, told.u, fun H2 s2 => ⟨_, rfl, iteF ?_⟩⟩
    refine ⟨_, rfl, _, rfl, _, _, rfl, rfl, c, ds, 0, _, rfl, (hc.same s1).same s2, nd.2.2, ln.2.2, told.d, fun H3 s3 => ⟨_, rfl, iteF ?_⟩⟩
    have s13 := s1.trans (s2.trans s3)
    exact ⟨_, rfl, _, rfl, _, rfl, _, rfl, _, rfl, _, rfl, T, a, b, c, ins, us, ds, rfl, near, hc9, told, ha.same s13, hb.same s13, hc.same s13, k.same s13⟩
end
end My
set_option Elab.async false
set_option linter.all false
set_option maxRecDepth 100000
set_option maxHeartbeats 8000000
namespace My
open PySem PySem.Spec PyProof.Rows L2
local macro_rules | `(tactic| walk_at "lv") => `(tactic| first | exact Or.inl rfl | exact Or.inr rfl)
theorem res_of {l : List Bool} {d : Nat} (hd : d ≤ l.length) : fil (fun k => l.getD k.toNat false) 0 d = resOf (cyc l) d := by
  unfold resOf
  refine fil_cong fun x h1 h2 => ?_
  have e : x = ((x.toNat : Nat) : Int) := by omega
  have q := cyc_lt (l := l) (k := x.toNat) (by omega)
  rw [← e] at q
  rw [q]
theorem irow_at {a z : Int} {n i : Nat} (h : (irow a n)[i]? = some z) : z = a + (i : Nat) ∧ i < n := by
  unfold irow at h
  rw [List.getElem?_map] at h
  rcases Nat.lt_or_ge i n with q | q
  · rw [List.getElem?_range q] at h
    exact ⟨(Option.some.inj h).symm, q⟩
  · rw [List.getElem?_eq_none (by rw [List.length_range]; exact q)] at h
    cases h
section
variable {P : Program} {w : World} {K : PySem.W.Frag} {mg : Str → Option Value} {base : Heap}
/-! ### _law_form -/
end
end My
set_option Elab.async false
set_option linter.all false
set_option maxRecDepth 100000
set_option maxHeartbeats 8000000
namespace My
open PySem PySem.Spec PyProof.Rows L2
local macro_rules | `(tactic| walk_at "lv") => `(tactic| first | exact Or.inl rfl | exact Or.inr rfl)
theorem rows_ok {T : Tl} {lo hi : Int} {d : Nat} : RowsOk lo hi (insOf T lo hi) d (resOf T.U d) (resOf T.D d) := by
  refine ⟨fil_asc _ _ _, fun n hn => ?_, fil_asc _ _ _, fun n hn => ?_, fil_asc _ _ _, fun n hn => ?_⟩
  · have := (mem_fil.mp hn).1
    omega
  · have := (mem_fil.mp hn).1
    omega
  · have := (mem_fil.mp hn).1
    omega
theorem mem_resOf {f : Int → Bool} {d : Nat} (hp : Per f d) (hd : 0 < d) (n : Int) : decide (n % (d : Int) ∈ resOf f d) = f n := by
  have k0 := Int.emod_nonneg n (by omega : (d : Int) ≠ 0)
  have k1 := Int.emod_lt_of_pos n (by omega : (0 : Int) < (d : Int))
  rw [← hp.mod n]
  cases e : f (n % (d : Int)) with
  | true => exact decide_eq_true (mem_fil.mpr ⟨⟨k0, by omega⟩, e⟩)
  | false => exact decide_eq_false fun z => by have := (mem_fil.mp z).2; rw [e] at this; cases this
theorem has_of {T : Tl} {lo hi : Int} {d : Nat} (fm : IsForm T.has T.U T.D lo hi d) (n : Int) : lotHas lo hi (insOf T lo hi) d (resOf T.U d) (resOf T.D d) n = T.has n := by
  unfold lotHas
  have hd := fm.least.pos
  by_cases h1 : hi < n
  · rw [if_pos h1, mem_resOf fm.least.pu hd, fm.above h1]
  · rw [if_neg h1]
    by_cases h2 : n < lo
    · rw [if_pos h2, mem_resOf fm.least.pd hd, fm.below h2]
    · rw [if_neg h2]
      cases e : T.has n with
      | true => exact decide_eq_true (mem_fil.mpr ⟨⟨by omega, by omega⟩, e⟩)
      | false => exact decide_eq_false fun z => by have := (mem_fil.mp z).2; rw [e] at this; cases this
theorem empty_fil {P : Int → Bool} {lo : Int} {n : Nat} (h : ∀ x, P x = false) : (fil P lo n).isEmpty = true := by
  cases e : fil P lo n with
  | nil => rfl
  | cons v r =>
    have := (mem_fil.mp (show v ∈ fil P lo n by rw [e]; exact List.mem_cons_self)).2
    rw [h v] at this
    cases this
theorem fil_empty {P : Int → Bool} {lo : Int} {n : Nat} (h : (fil P lo n).isEmpty = true) : ∀ x, lo ≤ x → x < lo + n → P x = false := fil_nil (List.isEmpty_iff.mp h)
theorem any_false {bs : List Bool} : bs.any id = false ↔ ∀ k, bs.getD k false = false := by
  constructor
  · intro h k; rw [List.getD_eq_getElem?_getD]
    cases e : bs[k]? with
    | none => rfl
    | some b =>
      cases b with
      | false => rfl
      | true =>
        have := List.any_eq_false.mp h true (List.mem_of_getElem? e)
        exact absurd rfl this
  · intro h
    refine List.any_eq_false.mpr fun b hb => ?_
    obtain ⟨k, hk, rfl⟩ := List.mem_iff_getElem.mp hb
    have := h k
    rw [List.getD_eq_getElem?_getD, List.getElem?_eq_getElem hk] at this
    show ¬ bs[k] = true
    have this : bs[k] = false := this
    rw [this]
    exact Bool.false_ne_true
theorem cyc_false {l : List Bool} (hl : 0 < l.length) : (∀ n, cyc l n = false) ↔ l.any id = false := by
  rw [any_false]
  constructor
  · intro h k
    rcases Nat.lt_or_ge k l.length with q | q
    · rw [← cyc_lt q]
      exact h _
    · rw [List.getD_eq_getElem?_getD, List.getElem?_eq_none q]
      rfl
  · intro h n
    exact h _
theorem bare_of {T : Tl} (ok : T.Ok) {lo hi : Int} {d : Nat} (fm : IsForm T.has T.U T.D lo hi d) :
    ((insOf T lo hi).isEmpty && ((resOf T.U d).isEmpty && (resOf T.D d).isEmpty)) = (!(T.cs.any id) && (!(T.us.any id) && !(T.ds.any id))) := by
  have hd := fm.least.pos
  have per : ∀ f : Int → Bool, Per f d → ((resOf f d).isEmpty = true ↔ ∀ n, f n = false) := fun f hp => by
    constructor
    · intro h n
      have k0 := Int.emod_nonneg n (by omega : (d : Int) ≠ 0)
      have k1 := Int.emod_lt_of_pos n (by omega : (0 : Int) < (d : Int))
      rw [← hp.mod n]
      exact fil_empty h _ k0 (by omega)
    · intro h
      exact empty_fil h
  have hh : T.hi = T.lo + T.cs.length - 1 := rfl
  rw [Bool.eq_iff_iff, Bool.and_eq_true, Bool.and_eq_true, Bool.and_eq_true, Bool.and_eq_true, per _ fm.least.pu, per _ fm.least.pd, Bool.not_eq_true', Bool.not_eq_true', Bool.not_eq_true', ← cyc_false (l := T.us) ok.pos, ← cyc_false (l := T.ds) (by rw [ok.len]; exact ok.pos)]
  constructor
  · rintro ⟨h1, h2, h3⟩
    have hz : ∀ n, T.has n = false := fun n => by
      rcases Int.lt_or_le hi n with q | q
      · rw [fm.above q, h2]
      · rcases Int.lt_or_le n lo with q2 | q2
        · rw [fm.below q2, h3]
        · exact fil_empty h1 n q2 (by omega)
    refine ⟨any_false.mpr fun k => ?_, h2, h3⟩
    rcases Nat.lt_or_ge k T.cs.length with q | q
    · have := hz (T.lo + (k : Int))
      rw [Tl.core (by omega) (by omega), show (T.lo + (k : Int) - T.lo).toNat = k by omega] at this
      exact this
    · rw [List.getD_eq_getElem?_getD, List.getElem?_eq_none q]
      rfl
  · rintro ⟨h1, h2, h3⟩
    refine ⟨empty_fil fun n => ?_, h2, h3⟩
    rcases Int.lt_or_le n T.lo with q | q
    · rw [Tl.below q]
      exact h3 n
    · rcases Int.lt_or_le T.hi n with q2 | q2
      · rw [Tl.above q2]
        exact h2 n
      · rw [Tl.core q q2]
        exact any_false.mp h1 _
theorem dec_iff {p : Prop} [Decidable p] {b : Bool} (h : p ↔ b = true) : b = decide p := by
  cases b with
  | true => exact (decide_eq_true (h.mpr rfl)).symm
  | false => exact (decide_eq_false fun z => by have := h.mp z; cases this).symm
theorem lotEq_all {lo hi lo' hi' m m' : Int} {ins us ds ins' us' ds' : List Int} (h : lotEq lo hi ins m us ds lo' hi' ins' m' us' ds' = true) : lo = lo' ∧ hi = hi' ∧ ins = ins' ∧ m = m' ∧ us = us' ∧ ds = ds' := by
  unfold lotEq at h
  simpa using h
theorem lotEq_self {lo hi m : Int} {ins us ds : List Int} : lotEq lo hi ins m us ds lo hi ins m us ds = true := by
  unfold lotEq
  simp
/-! ### what draws leave -/
theorem HandC.np {H : Hp} {p c x : Addr} {o : HO} (h : HandC H p c) (e : H x = some o) (ho : ∀ a i r t, o ≠ .lst [.ref a, .int i, .int r, .int t]) : x ≠ p := by
  obtain ⟨cs, i, r, t, e1, _, _⟩ := h
  exact ne_of e e1 (ho _ _ _ _)
theorem LotAt.but {H H' : Hp} {p c C l : Addr} {lo hi : Int} {ins us ds : List Int} {m : Nat} (hh : HandC H p c) (b : But p H H') (h : LotAt C H l lo hi ins m us ds) : LotAt C H' l lo hi ins m us ds := by
  obtain ⟨dx, a1, a2, a3, h1, h2, h3, h4⟩ := h
  exact ⟨dx, a1, a2, a3, b _ _ (hh.np h1 fun _ _ _ _ z => by cases z) h1, b _ _ (hh.np h2 fun _ _ _ _ z => by cases z) h2, b _ _ (hh.np h3 fun _ _ _ _ z => by cases z) h3, b _ _ (hh.np h4 fun _ _ _ _ z => by cases z) h4⟩
end My
set_option linter.all false
namespace My
/-! ### a lot's data as a telling; moved, turned -/
def tlOf (lo : Int) (n : Nat) (xs : List Int) (m : Nat) (us ds : List Int) : Tl :=
  ⟨lo, (List.range n).map fun (k : Nat) => decide (lo + (k : Int) ∈ xs), (List.range m).map fun (k : Nat) => decide ((k : Int) ∈ us), (List.range m).map fun (k : Nat) => decide ((k : Int) ∈ ds)⟩
theorem getD_rng {f : Nat → Bool} {n k : Nat} (h : k < n) : ((List.range n).map f).getD k false = f k := by
  rw [List.getD_eq_getElem?_getD, List.getElem?_map, List.getElem?_range h]; rfl
theorem cyc_rng {f : Nat → Bool} {m : Nat} (hm : 0 < m) (x : Int) : cyc ((List.range m).map f) x = f (x % (m : Int)).toNat := by
  unfold cyc
  have k1 := Int.emod_lt_of_pos x (by omega : (0 : Int) < (m : Int))
  have k0 := Int.emod_nonneg x (by omega : (m : Int) ≠ 0)
  rw [List.length_map, List.length_range, getD_rng (by omega)]
section
variable {lo : Int} {n m : Nat} {xs us ds : List Int}
theorem tlOf_ok (hm : 0 < m) : (tlOf lo n xs m us ds).Ok := ⟨by show ((List.range m).map _).length = ((List.range m).map _).length; simp, by show 0 < ((List.range m).map _).length; simpa using hm⟩
theorem tlOf_m : (tlOf lo n xs m us ds).us.length = m := by show ((List.range m).map _).length = m; simp
theorem tlOf_c : (tlOf lo n xs m us ds).cs.length = n := by show ((List.range n).map _).length = n; simp
theorem tlOf_hi : (tlOf lo n xs m us ds).hi = lo + n - 1 := by
  show lo + (((List.range n).map _).length : Int) - 1 = _
  simp
theorem tlOf_U (hm : 0 < m) (x : Int) : (tlOf lo n xs m us ds).U x = decide (x % (m : Int) ∈ us) := by
  have k0 := Int.emod_nonneg x (by omega : (m : Int) ≠ 0)
  show cyc _ x = _
  refine (cyc_rng hm x).trans ?_
  rw [Int.toNat_of_nonneg k0]
theorem tlOf_D (hm : 0 < m) (x : Int) : (tlOf lo n xs m us ds).D x = decide (x % (m : Int) ∈ ds) := by
  have k0 := Int.emod_nonneg x (by omega : (m : Int) ≠ 0)
  show cyc _ x = _
  refine (cyc_rng hm x).trans ?_
  rw [Int.toNat_of_nonneg k0]
theorem tlOf_has (hm : 0 < m) (x : Int) : (tlOf lo n xs m us ds).has x = lotHas lo (lo + n - 1) xs m us ds x := by
  unfold Tl.has lotHas
  rw [tlOf_hi, tlOf_U hm, tlOf_D hm]
  show (if x < lo then _ else _) = _
  by_cases h1 : x < lo
  · rw [if_pos h1, if_neg (by omega), if_pos h1]
  · rw [if_neg h1]
    by_cases h2 : lo + (n : Int) - 1 < x
    · rw [if_pos h2, if_pos h2]
    · rw [if_neg h2, if_neg h2, if_neg h1]
      show ((List.range n).map _).getD (x - lo).toNat false = _
      rw [getD_rng (by omega), show lo + ((x - lo).toNat : Int) = x by omega]
theorem tlOf_told (hx : ∀ x ∈ xs, lo ≤ x ∧ x ≤ lo + n - 1) (hu : ∀ x ∈ us, 0 ≤ x ∧ x < m) (hd : ∀ x ∈ ds, 0 ≤ x ∧ x < m) : Told (tlOf lo n xs m us ds) xs us ds := by
  refine ⟨fun x h => ?_, fun k h => ?_, fun x h => ?_, fun k h => ?_, fun x h => ?_, fun k h => ?_⟩
  · rw [tlOf_hi]; exact hx x h
  · rw [tlOf_c] at h
    exact getD_rng h
  · rw [tlOf_m]
    have := hu x h
    omega
  · rw [tlOf_m] at h
    refine (getD_rng h).trans ?_
    rw [Int.zero_add]
  · rw [tlOf_m]
    have := hd x h
    omega
  · rw [tlOf_m] at h
    refine (getD_rng h).trans ?_
    rw [Int.zero_add]
end
theorem dec_cong {p q : Prop} [Decidable p] [Decidable q] (h : p ↔ q) : decide p = decide q := by
  by_cases hq : q
  · rw [decide_eq_true (h.mpr hq), decide_eq_true hq]
  · rw [decide_eq_false (fun z => hq (h.mp z)), decide_eq_false hq]
/-- rests moved on -/
theorem mem_shift {us : List Int} {m : Nat} (hu : ∀ r ∈ us, 0 ≤ r ∧ r < m) (b x : Int) : x % (m : Int) ∈ us.map (fun r => (r + b) % (m : Int)) ↔ (x - b) % (m : Int) ∈ us := by
  rw [List.mem_map]
  constructor
  · rintro ⟨r, hr, e⟩
    have e2 : r % (m : Int) = (x - b) % (m : Int) := Int.emod_eq_emod_iff_emod_sub_eq_zero.mpr (by
      have := Int.emod_eq_emod_iff_emod_sub_eq_zero.mp e
      rw [show r - (x - b) = r + b - x by omega]; exact this)
    rw [← e2, Int.emod_eq_of_lt (hu r hr).1 (hu r hr).2]
    exact hr
  · intro h
    refine ⟨_, h, ?_⟩
    rw [Int.emod_add_emod, show x - b + b = x by omega]
/-- rests turned -/
theorem mem_turn {us : List Int} {m : Nat} (hu : ∀ r ∈ us, 0 ≤ r ∧ r < m) (x : Int) : x % (m : Int) ∈ us.map (fun r => (-r) % (m : Int)) ↔ (-x) % (m : Int) ∈ us := by
  rw [List.mem_map]
  constructor
  · rintro ⟨r, hr, e⟩
    have e2 : r % (m : Int) = (-x) % (m : Int) := Int.emod_eq_emod_iff_emod_sub_eq_zero.mpr (by
      have := Int.emod_eq_emod_iff_emod_sub_eq_zero.mp e.symm
      rw [show r - -x = x - -r by omega]; exact this)
    rw [← e2, Int.emod_eq_of_lt (hu r hr).1 (hu r hr).2]
    exact hr
  · intro h
    refine ⟨_, h, ?_⟩
    refine Int.emod_eq_emod_iff_emod_sub_eq_zero.mpr ?_
    have := Int.emod_add_mul_ediv (-x) (m : Int)
    rw [show -((-x) % (m : Int)) - x = (m : Int) * ((-x) / (m : Int)) by omega]
    exact Int.mul_emod_right _ _
section
variable {lo hi : Int} {m : Nat} {xs us ds : List Int}
theorem lot_moved (hu : ∀ r ∈ us, 0 ≤ r ∧ r < m) (hd : ∀ r ∈ ds, 0 ≤ r ∧ r < m) (b x : Int) :
    lotHas (lo + b) (hi + b) (xs.map (· + b)) m (us.map fun r => (r + b) % (m : Int)) (ds.map fun r => (r + b) % (m : Int)) x = lotHas lo hi xs m us ds (x - b) := by
  unfold lotHas
  rw [dec_cong (mem_shift hu b x), dec_cong (mem_shift hd b x)]
  by_cases h1 : hi + b < x
  · rw [if_pos h1, if_pos (by omega)]
  · rw [if_neg h1, if_neg (by omega : ¬ hi < x - b)]
    by_cases h2 : x < lo + b
    · rw [if_pos h2, if_pos (by omega)]
    · rw [if_neg h2, if_neg (by omega : ¬ x - b < lo)]
      refine dec_cong ⟨fun h => ?_, fun h => List.mem_map.mpr ⟨_, h, by omega⟩⟩
      obtain ⟨y, hy, e⟩ := List.mem_map.mp h
      rw [show x - b = y by omega]
      exact hy
theorem lot_turned (hs : lo ≤ hi + 1) (hu : ∀ r ∈ us, 0 ≤ r ∧ r < m) (hd : ∀ r ∈ ds, 0 ≤ r ∧ r < m) (x : Int) :
    lotHas (-hi) (-lo) (xs.map (-·)) m (ds.map fun r => (-r) % (m : Int)) (us.map fun r => (-r) % (m : Int)) x = lotHas lo hi xs m us ds (-x) := by
  unfold lotHas
  rw [dec_cong (mem_turn hu x), dec_cong (mem_turn hd x)]
  by_cases h1 : -lo < x
  · rw [if_pos h1, if_neg (by omega : ¬ hi < -x), if_pos (by omega)]
  · rw [if_neg h1]
    by_cases h2 : x < -hi
    · rw [if_pos h2, if_pos (by omega)]
    · rw [if_neg h2, if_neg (by omega : ¬ hi < -x), if_neg (by omega : ¬ -x < lo)]
      refine dec_cong ⟨fun h => ?_, fun h => List.mem_map.mpr ⟨_, h, by omega⟩⟩
      obtain ⟨y, hy, e⟩ := List.mem_map.mp h
      rw [show -x = y by omega]
      exact hy
end
/-- the law's own telling, moved -/
def Tl.mv (T : Tl) (b : Int) : Tl := ⟨T.lo + b, T.cs, (List.range T.us.length).map fun (k : Nat) => T.U ((k : Int) - b), (List.range T.us.length).map fun (k : Nat) => T.D ((k : Int) - b)⟩
def Tl.tn (T : Tl) : Tl := ⟨-T.hi, (List.range T.cs.length).map fun (k : Nat) => T.cs.getD (T.cs.length - 1 - k) false, (List.range T.us.length).map fun (k : Nat) => T.D (-(k : Int)), (List.range T.us.length).map fun (k : Nat) => T.U (-(k : Int))⟩
theorem per_mod {f : Int → Bool} {m : Nat} (hp : Per f m) (hm : 0 < m) (g : Int → Int) (x : Int) (hg : (g (x % (m : Int))) % (m : Int) = g x % (m : Int)) : f (g ((x % (m : Int)).toNat : Int)) = f (g x) := by
  rw [Int.toNat_of_nonneg (Int.emod_nonneg x (by omega : (m : Int) ≠ 0))]
  exact hp.cong hg
theorem mv_U {T : Tl} (ok : T.Ok) (b x : Int) : (T.mv b).U x = T.U (x - b) := by
  refine (cyc_rng ok.pos x).trans (per_mod ok.pu ok.pos (· - b) x ?_)
  show (x % (T.us.length : Int) - b) % (T.us.length : Int) = (x - b) % (T.us.length : Int)
  rw [Int.sub_emod, Int.emod_emod, ← Int.sub_emod]
theorem mv_D {T : Tl} (ok : T.Ok) (b x : Int) : (T.mv b).D x = T.D (x - b) := by
  refine (cyc_rng ok.pos x).trans (per_mod ok.pd ok.pos (· - b) x ?_)
  show (x % (T.us.length : Int) - b) % (T.us.length : Int) = (x - b) % (T.us.length : Int)
  rw [Int.sub_emod, Int.emod_emod, ← Int.sub_emod]
theorem neg_mod (x : Int) (m : Nat) : (-(x % (m : Int))) % (m : Int) = (-x) % (m : Int) := by
  rw [← Int.zero_sub, Int.sub_emod, Int.emod_emod, ← Int.sub_emod, Int.zero_sub]
theorem tn_U {T : Tl} (ok : T.Ok) (x : Int) : T.tn.U x = T.D (-x) := (cyc_rng ok.pos x).trans (per_mod ok.pd ok.pos (-·) x (neg_mod x _))
theorem tn_D {T : Tl} (ok : T.Ok) (x : Int) : T.tn.D x = T.U (-x) := (cyc_rng ok.pos x).trans (per_mod ok.pu ok.pos (-·) x (neg_mod x _))
theorem mv_has {T : Tl} (ok : T.Ok) (b x : Int) : (T.mv b).has x = T.has (x - b) := by
  unfold Tl.has
  rw [mv_U ok, mv_D ok]
  show (if x < T.lo + b then _ else if T.lo + b + T.cs.length - 1 < x then _ else T.cs.getD (x - (T.lo + b)).toNat false) = if x - b < T.lo then _ else if T.lo + T.cs.length - 1 < x - b then _ else _
  by_cases h1 : x < T.lo + b
  · rw [if_pos h1, if_pos (by omega)]
  · rw [if_neg h1, if_neg (by omega : ¬ x - b < T.lo)]
    by_cases h2 : T.lo + b + T.cs.length - 1 < x
    · rw [if_pos h2, if_pos (by omega)]
    · rw [if_neg h2, if_neg (by omega : ¬ T.lo + T.cs.length - 1 < x - b), show x - (T.lo + b) = x - b - T.lo by omega]
theorem tn_has {T : Tl} (ok : T.Ok) (x : Int) : T.tn.has x = T.has (-x) := by
  unfold Tl.has
  rw [tn_U ok, tn_D ok]
  have e1 : T.tn.cs.length = T.cs.length := by show ((List.range T.cs.length).map _).length = _; simp
  have e2 : T.tn.hi = -T.lo := by
    show -T.hi + (T.tn.cs.length : Int) - 1 = _
    rw [e1]
    show -(T.lo + T.cs.length - 1) + (T.cs.length : Int) - 1 = _
    omega
  rw [e2]
  have e3 : T.hi = T.lo + T.cs.length - 1 := rfl
  show (if x < -T.hi then _ else if -T.lo < x then _ else T.tn.cs.getD (x - -T.hi).toNat false) = _
  by_cases h1 : x < -T.hi
  · rw [if_pos h1, if_neg (by omega : ¬ -x < T.lo), if_pos (by omega)]
  · rw [if_neg h1]
    by_cases h2 : -T.lo < x
    · rw [if_pos h2, if_pos (by omega)]
    · rw [if_neg h2, if_neg (by omega : ¬ -x < T.lo), if_neg (by omega : ¬ T.hi < -x)]
      refine (getD_rng (by omega)).trans ?_
      rw [show T.cs.length - 1 - (x - -T.hi).toNat = (-x - T.lo).toNat by omega]
end My
set_option Elab.async false
set_option linter.all false
set_option maxRecDepth 100000
set_option maxHeartbeats 8000000
namespace My
open PySem PySem.Spec PyProof.Rows L2
local macro_rules | `(tactic| walk_at "lv") => `(tactic| first | exact Or.inl rfl | exact Or.inr rfl)
/-! ### y = {k: v for ..} -/
section
variable {X : L2.Cx}
theorem sw_dict {kx vx : Expr} {gs : List Comprehension} {sc : Scope} {pos py : Pos} {y : Str} {l : Nat} {env : Env} (h1 : env.scope.kind = .function) (h2 : env.scope.names.lookup y = some .local) (h3 : (py.line == pos.line) = true)
    (h4 : (sc.names.any fun (n, k) => n == y && (k == .local || k == .cell)) = false) : swapsWith (.DictComp kx vx gs sc pos) (some (.Name y py)) l env = pure true := by
  have b1 : env.kindOf y = some .local := h2
  have b2 : env.blockKind = .function := by unfold Env.blockKind; rw [h1]; rfl
  unfold swapsWith
  simp only [b1, b2, h4, Expr.pos, h3]
  rfl
abbrev Blk (X : L2.Cx) (sc : Scope) (p : L2.Cx → Prop) : Prop := ∀ (s : Shared) (H : Hp) (C : Addr) (cl : List (Str × Addr)) (fp : List Addr), p (X.blk s H sc (compEnvC sc cl C X.env) fp)
theorem ps_setDc {i : Nat} {y : Str} {py : Pos} {kx vx tg iter : Expr} {ifs : List Expr} {sc : Scope} {own : List (Str × Nat)} {pos spos : Pos} {wi : TI} {g : TG} {tt : TT} {tk tv : TE} (c1 : X.calm = true) (c2 : X.N.Nodup) (c3 : X.N[i]? = some y) (c4 : X.env.scope.names.lookup y = some .local)
    (sw : swapsWith (.DictComp kx vx [⟨tg, iter, ifs, 0⟩] sc pos) (some (.Name y py)) spos.line X.env = pure true) (c5 : PI X tg iter wi) (c6 : BlkOk X.N X.env.scope sc own)
    (d1 : Blk X sc fun Y => PG Y tg g) (d2 : Blk X sc fun Y => PTs Y ifs tt) (d3 : Blk X sc fun Y => PE Y kx tk) (d4 : Blk X sc fun Y => PE Y vx tv) (c7 : ∀ x, foldedSetIterable iter X.env x = pure x := by intro _; rfl) :
    PS X (.Assign [.Name y py] (.DictComp kx vx [⟨tg, iter, ifs, 0⟩] sc pos) spos) (tAsg (tDc wi g tt tk tv (own.map (·.2))) (gName i)) := by
  refine ⟨fun pns s σ H D I h => ?_⟩
  rw [exec_Assign_Name_used _ _ _ _ sw]; refine wpAny_bind (wpAny_standAt (wpAny_bind ?_))
  show wpAny _ X.A (do let _ ← comprehension (.DictComp kx vx [⟨tg, iter, ifs, 0⟩] sc pos) sc X.env (firstIterPos [⟨tg, iter, ifs, 0⟩] pos) newDict false (eval iter X.env) (some (assign (.Name y py) X.env))) _ _ s
  have h' : tDc wi g tt tk tv (own.map (·.2)) σ H (fun x H1 => gName i x σ H1 D.nx) := h
  refine wpAny_bind (thn (dc_core (Qf := fun _ s' => SP X pns D .next s') c1 c2 I c5 c6 d1 d2 d3 d4 c7 h' fun L C s' m H' I' q hn f => ?_) fun _ s' hq => wpAny_pure (wpAny_pure hq))
  show wpAny _ _ (assign (.Name y py) X.env (.ref L)) _ _ _; refine wpAny_assign_Name (store_ok2 (v := V.ref L) I' c2 c3 (.inl c4) rfl (fun s2 I2 ⟨a, sb, ha⟩ => ?_) (.inr c4))
  have ⟨f0, f1, f2, f3, f4, f5⟩ := f
  have na : C ≠ a := ha.elim (fun z => by rw [z]; exact f1) fun z e => f4 y a z e.symm
  exact ⟨m, hn.sameBut sb na, fun h3 sb3 => ⟨_, H', I2.turned (t' := s2.toks) (fun b o nb e => (sb3.2 b nb).trans e) f0 f1 f3 f4 f5, q⟩⟩
end
end My
set_option Elab.async false
set_option linter.all false
set_option maxRecDepth 100000
set_option maxHeartbeats 8000000
namespace My
open PySem PySem.Spec PyProof.Rows L2
section
variable {X : L2.Cx}
/-! ### x in t, t a tuple of data -/
def rInT (K : PySem.W.Frag) : R2 := fun x y H Q => ∃ d ds, Dp K H x d ∧ Dp K H y (.tuple ds) ∧ SeqAt.shaped d = true ∧ SeqAt.shaped (.tuple ds) = true ∧ Q (.bl (ds.any fun z => PyData.eqv z d)) H
theorem op_inT (hu : X.A.units + 65 < cLine) : OpR X (compareOp .In) (rInT X.K) := by
  intro pins s σ H x y v u Q I rx ry h; obtain ⟨d, ds, hd, he, sd, se, q⟩ := h
  obtain ⟨as, r1⟩ := Dp.reads I d x v hd rx; obtain ⟨bs, r2⟩ := Dp.reads I (.tuple ds) y u he ry
  exact SeqAt.in_tuple_reads r2 r1 (SeqAt.canLay_of_shaped se) (SeqAt.canLay_of_shaped sd) (room_in_shaped sd hu) ⟨.bl _, H, I, rfl, q⟩
/-- math.lcm of two numbers -/
def rLcm : List V → Hp → VK → Prop := fun vs H Q => ∃ a b : Int, vs = [.int a, .int b] ∧ a.natAbs < 2 ^ 20 ∧ b.natAbs < 2 ^ 20 ∧ Q (.int ((Nat.lcm a.natAbs b.natAbs : Nat) : Int)) H
theorem cr_lcm : CallR X (.builtin "math.lcm") rLcm := by
  intro pins s σ H vs us Q I r h; obtain ⟨a, b, rfl, ha, hb, q⟩ := h
  obtain ⟨t, u, rfl⟩ := Vals.int2 r; exact PySem.W.mc_lcm (by omega) (by omega) fun _ => ⟨.int _, H, I.tok _, ⟨_, rfl⟩, q⟩
end
end My
set_option Elab.async false
set_option linter.all false
set_option maxRecDepth 100000
set_option maxHeartbeats 8000000
namespace My
open PySem PySem.Spec PyProof.Rows L2
local macro_rules | `(tactic| walk_at "lv") => `(tactic| first | exact Or.inl rfl | exact Or.inr rfl)
/-! ### rows of flags -/
def rowB (f : Int → Bool) (lo : Int) (n : Nat) : List Bool := (List.range n).map fun (k : Nat) => f (lo + (k : Int))
theorem rowB_len {f : Int → Bool} {lo : Int} {n : Nat} : (rowB f lo n).length = n := by unfold rowB; rw [List.length_map, List.length_range]
theorem rowB_succ {f : Int → Bool} {lo : Int} {n : Nat} : rowB f lo (n + 1) = rowB f lo n ++ [f (lo + (n : Int))] := by
  unfold rowB
  rw [List.range_succ, List.map_append]
  rfl
theorem rowB_add {f : Int → Bool} {lo : Int} {n : Nat} : ∀ m, rowB f lo (n + m) = rowB f lo n ++ rowB f (lo + n) m
  | 0 => by rw [Nat.add_zero]; show _ = _ ++ []; rw [List.append_nil]
  | m + 1 => by
    rw [← Nat.add_assoc, rowB_succ, rowB_succ, rowB_add m, List.append_assoc]
    congr 4
    push_cast
    omega
theorem rowB_get {f : Int → Bool} {lo : Int} {n k : Nat} (h : k < n) : (rowB f lo n).getD k false = f (lo + (k : Int)) := by
  unfold rowB
  rw [List.getD_eq_getElem?_getD, List.getElem?_map, List.getElem?_range h]; rfl
theorem rowB_cong {f g : Int → Bool} {lo : Int} {n : Nat} (h : ∀ x, lo ≤ x → x < lo + n → f x = g x) : rowB f lo n = rowB g lo n := by
  unfold rowB
  refine List.map_congr_left fun k hk => ?_
  have := List.mem_range.mp hk
  exact h (lo + k) (by omega) (by omega)
/-- three rows on end -/
theorem rowB_three {f g1 g2 g3 : Int → Bool} {lo a2 a3 : Int} {n1 n2 n3 n : Nat} (hn : n1 + n2 + n3 = n) (h2 : 0 < n2 → a2 = lo + n1) (h3 : 0 < n3 → a3 = lo + n1 + n2) (e1 : ∀ x, lo ≤ x → x < lo + n1 → g1 x = f x) (e2 : ∀ x, a2 ≤ x → x < a2 + n2 → g2 x = f x) (e3 : ∀ x, a3 ≤ x → x < a3 + n3 → g3 x = f x) :
    rowB g1 lo n1 ++ rowB g2 a2 n2 ++ rowB g3 a3 n3 = rowB f lo n := by
  have z : ∀ (g : Int → Bool) (a : Int), rowB g a 0 = [] := fun _ _ => rfl
  subst hn
  rw [rowB_add, rowB_add, rowB_cong e1, rowB_cong e2, rowB_cong e3]
  congr 1
  · congr 1
    rcases Nat.eq_zero_or_pos n2 with q | q
    · rw [q, z, z]
    · rw [h2 q]
  · rcases Nat.eq_zero_or_pos n3 with q | q
    · rw [q, z, z]
    · rw [h3 q]
      congr 1
      push_cast
      omega
/-- a lot's data, as the walks need them -/
structure LotD (lo hi : Int) (xs : List Int) (m : Nat) (us ds : List Int) : Prop where
  sz : lo ≤ hi + 1
  b1 : -20000 ≤ lo
  b2 : hi ≤ 20000
  i : ∀ n ∈ xs, lo ≤ n ∧ n ≤ hi
  u : ∀ r ∈ us, 0 ≤ r ∧ r < m
  d : ∀ r ∈ ds, 0 ≤ r ∧ r < m
  pos : 0 < m
  m1 : m ≤ 10080
  li : xs.length ≤ 50000
section
variable {P : Program} {w : World} {K : PySem.W.Frag} {mg : Str → Option Value} {base : Heap}
/-! ### lot_flags -/
def spLF (C : Addr) : Sp := fun vs H Q _ => ∃ (p : Addr) (low high lo hi : Int) (m : Nat) (xs us ds : List Int), vs = [.ref p, .int low, .int high] ∧ LotAt C H p lo hi xs m us ds ∧ LotD lo hi xs m us ds ∧ (low ≤ high + 1 ∧ -100000 ≤ low ∧ high ≤ 100000 ∧ high - low < 50000) ∧
  ∀ a H', H a = none → Same H H' → H' a = some (.lst ((rowB (lotHas lo hi xs m us ds) low (high + 1 - low).toNat).map V.bl)) → Q (.ref a) H'
abbrev s_lf : Stmt := top 30
abbrev N_lf : List Str := ["lot", "low", "high", "downs", "ups", "held", "number", "flags", "n"]
theorem sc_lf : FnScope N_lf ["lot", "low", "high"] (defScope s_lf) := ⟨rfl, rfl, rfl, by decide +kernel, rfl, by decide +kernel, by decide +kernel⟩
theorem ix_mod {bs : List Bool} {us : List Int} {m : Nat} (hm : 0 < m) (hl : bs.length = m) (hg : ∀ k : Nat, k < bs.length → bs.getD k false = decide (0 + (k : Int) ∈ us)) (x : Int) : atI (bs.map V.bl) (x % (m : Int)) = some (.bl (decide (x % (m : Int) ∈ us))) := by
  have k0 := Int.emod_nonneg x (by omega : (m : Int) ≠ 0)
  have k1 := Int.emod_lt_of_pos x (by omega : (0 : Int) < (m : Int))
  rw [blI_get k0 (by omega), hg _ (by omega)]
  rw [show (0 : Int) + ((x % (m : Int)).toNat : Int) = x % (m : Int) by omega]
theorem kp_lf {C : Addr} (F : At K mg "lot_flags" s_lf) (T : LotTxt K mg C) (N : Nb mg) (nMax : mg "max" = none) (Gf : Keeps CX0 P w K mg base "_flags" 1 ["low", "high", "numbers"] spFlags) : Keeps CX0 P w K mg base "lot_flags" 2 ["lot", "low", "high"] (spLF C) := by
  refine keeps_of F sc_lf (fun _ _ _ _ _ _ us hl => match us, hl with | [_, _, _], _ => rfl) (fun vs H Q E h => ?_) (fun f cdv A outer s H vs Q E hr h => ?_)
  · obtain ⟨p, low, high, lo, hi, m, xs, us, ds, rfl, _⟩ := h
    rfl
  · obtain ⟨p, low, high, lo, hi, m, xs, us, ds, rfl, ⟨dx, a1, a2, a3, hp, h1, h2, h3⟩, L, ⟨r1, r2, r3, r4⟩, k⟩ := h
    have hu := hu_of hr
    have mp := L.pos
    have mp' : (0 : Int) < (m : Int) := by omega
    have m1 := L.m1
    have sz := L.sz
    have b1 := L.b1
    have b2 := L.b2
    refine ⟨_, (pss_cons (ps_set (i := 3) sc_lf.nd rfl (by walk_at "lv") (pe_k Gf hr (by rfl) pass0 (pa_cons pe_int (pa_cons (pe_op op_sub (pe_fld (pv 0) rfl) pe_int) (pa_cons (pe_fld (pv 0) rfl) pa_nil)))))
        (pss_cons (ps_set (i := 4) sc_lf.nd rfl (by walk_at "lv") (pe_k Gf hr (by rfl) pass0 (pa_cons pe_int (pa_cons (pe_op op_sub (pe_fld (pv 0) rfl) pe_int) (pa_cons (pe_fld (pv 0) rfl) pa_nil)))))
        (pss_cons (ps_set (i := 5) sc_lf.nd rfl (by walk_at "lv") (pe_dc (own := [("number", 6)]) (g := gName 6) (tt := tYes) (tk := tVar 6) (tv := tC (.bl true)) rfl sc_lf.nd (pi_tup (pe_fld (pv 0) rfl)) (blkOk_by (N := N_lf) (sc := defScope s_lf) (by decide +kernel)) (fun _ _ _ _ _ => (pg_name (i := 6) sc_lf.nd rfl (by walk_at "lv"))) (fun _ _ _ _ _ => pts_nil) (fun _ _ _ _ _ => (pv 6)) (fun _ _ _ _ _ => pe_bl)))
        (pss_cons (ps_setLc (i := 7) (own := [("n", 8)]) (g := gName 8) (tt := tYes) rfl sc_lf.nd rfl rfl (sw_true rfl rfl rfl (by decide +kernel)) (pi_range2 (by rfl) N.range (pa_cons (pv 1) (pa_cons (pe_op op_add (pe_callB (call_min2 rfl) (by rfl) N.min (by decide +kernel) (pa_cons (pv 2) (pa_cons (pe_op op_sub (pe_fld (pv 0) rfl) pe_int) pa_nil))) pe_int) pa_nil))) (blkOk_by (N := N_lf) (sc := defScope s_lf) (by decide +kernel)) (fun _ _ _ _ _ => (pg_name (i := 8) sc_lf.nd rfl (by walk_at "lv"))) (fun _ _ _ _ _ => pts_nil) (fun _ _ _ _ _ => (pe_ix (r := rIxL K) ix_list (pv 3) (pe_op op_mod (pv 8) (tb := tFld K (tVar 0) "modulus") (pe_fld (pv 0) rfl)) (fun _ _ => rfl))))
        (pss_cons (ps_expr (pe_bm PySem.F.plainAttrs_list PySem.F.slot_list_extend PySem.F.type_list_extend mt_extend (pv 7) (pa_cons (pe_lc (own := [("n", 8)]) (g := gName 8) (tt := tYes) rfl sc_lf.nd (pi_range2 (by rfl) N.range (pa_cons (pe_callB (call_max2 rfl) (by rfl) nMax (by decide +kernel) (pa_cons (pv 1) (pa_cons (pe_fld (pv 0) rfl) pa_nil))) (pa_cons (pe_op op_add (pe_callB (call_min2 rfl) (by rfl) N.min (by decide +kernel) (pa_cons (pv 2) (pa_cons (pe_fld (pv 0) rfl) pa_nil))) pe_int) pa_nil))) (blkOk_by (N := N_lf) (sc := defScope s_lf) (by decide +kernel)) (fun _ _ _ _ _ => (pg_name (i := 8) sc_lf.nd rfl (by walk_at "lv"))) (fun _ _ _ _ _ => pts_nil) (fun _ _ _ _ _ => (pe_cmp (pc_din hu (pv 8) (pv 5)) rfl))) pa_nil)))
        (pss_cons (ps_expr (pe_bm PySem.F.plainAttrs_list PySem.F.slot_list_extend PySem.F.type_list_extend mt_extend (pv 7) (pa_cons (pe_lc (own := [("n", 8)]) (g := gName 8) (tt := tYes) rfl sc_lf.nd (pi_range2 (by rfl) N.range (pa_cons (pe_callB (call_max2 rfl) (by rfl) nMax (by decide +kernel) (pa_cons (pv 1) (pa_cons (pe_op op_add (pe_fld (pv 0) rfl) pe_int) pa_nil))) (pa_cons (pe_op op_add (pv 2) pe_int) pa_nil))) (blkOk_by (N := N_lf) (sc := defScope s_lf) (by decide +kernel)) (fun _ _ _ _ _ => (pg_name (i := 8) sc_lf.nd rfl (by walk_at "lv"))) (fun _ _ _ _ _ => pts_nil) (fun _ _ _ _ _ => (pe_ix (r := rIxL K) ix_list (pv 4) (pe_op op_mod (pv 8) (tb := tFld K (tVar 0) "modulus") (pe_fld (pv 0) rfl)) (fun _ _ => rfl)))) pa_nil)))
        (pss_one (ps_ret (pv 7))))))))), ?_⟩
    refine ⟨_, rfl, p, C, dx, _, _, rfl, hp, T.cl, T.n4, lf_modulus, _, _, rfl, rfl, _, rfl, p, C, dx, _, _, rfl, hp, T.cl, T.n6, lf_downs, a3, ds, 0, _, rfl, .inr h3, by omega, by omega, by omega, by omega, (fun n hn => by have := L.d n hn; omega), fun q1 bs1 H1 n1 s1 e1 l1 g1 => ?_⟩
    refine ⟨_, rfl, p, C, dx, _, _, rfl, s1 _ _ hp, T.cl, T.n4, lf_modulus, _, _, rfl, rfl, _, rfl, p, C, dx, _, _, rfl, s1 _ _ hp, T.cl, T.n5, lf_ups, a2, us, 0, _, rfl, .inr (s1 _ _ h2), by omega, by omega, by omega, by omega, (fun n hn => by have := L.u n hn; omega), fun q2 bs2 H2 n2 s2 e2 l2 g2 => ?_⟩
    have s12 := s1.trans s2
    have e1 := s2 _ _ e1
    refine ⟨_, rfl, p, C, dx, _, _, rfl, s12 _ _ hp, T.cl, T.n3, lf_inside, a1, rfl, ⟨_, SqT.of (s12 _ _ h1)⟩, fun D hD => ?_⟩
    refine dc_tup (xs := xs.map V.int) (fun i H3 => Same H2 H3 ∧ ∃ kvs, H3 D = some (.dK kvs) ∧ kvs.length ≤ i ∧ ∀ n : Int, (valV kvs (Sum.inl n)).isSome = decide (n ∈ xs.take i)) ⟨same_new (Same.refl H2) hD, [], upd_same, Nat.le_refl 0, fun n => by simp [valV_nil]⟩ (fun i H3 _ h => SqT.of (h.1 _ _ (s12 _ _ h1))) ?_ ?_
    · rintro i x H3 hx ⟨s3, kvs, k1, k2, k3⟩
      obtain ⟨y, hy, rfl⟩ := int_at hx
      have il : i < xs.length := (List.getElem?_eq_some_iff.mp hy).1
      have ll := L.li
      refine ⟨rfl, _, rfl, kvs, Sum.inl y, rfl, k1, smallB (by omega), ?_, _, upd_same, Nat.le_trans (length_putK _ _ _) (by omega), fun n => ?_⟩
      · intro b o e
        rw [upd_ne (ne_of_none e hD)]
        exact s3 b o e
      · rw [valV_put, List.take_succ, hy]
        by_cases q : (Sum.inl n : Key) = Sum.inl y
        · cases q
          rw [if_pos rfl]
          simp
        · rw [if_neg q, k3]
          have q' : ¬ n = y := fun z => q (by rw [z])
          simp [q']
    rintro H3 ⟨s3, kvs, k1, _, k3⟩
    rw [List.length_map, List.take_length] at k3
    have s13 := s12.trans s3
    have hp3 := s13 _ _ hp
    have e1 := s3 _ _ e1
    have e2 := s3 _ _ e2
    generalize hA : (if lo - 1 < high then lo - 1 else high) = A1
    have vA : A1 = lo - 1 ∧ lo - 1 ≤ high ∨ A1 = high ∧ high ≤ lo - 1 := by split at hA <;> omega
    generalize hB : (if lo > low then lo else low) = B1
    have vB : B1 = lo ∧ low ≤ lo ∨ B1 = low ∧ lo ≤ low := by split at hB <;> omega
    generalize hC : (if hi < high then hi else high) = C1
    have vC : C1 = hi ∧ hi ≤ high ∨ C1 = high ∧ high ≤ hi := by split at hC <;> omega
    generalize hE : (if hi + 1 > low then hi + 1 else low) = E1
    have vE : E1 = hi + 1 ∧ low ≤ hi + 1 ∨ E1 = low ∧ hi + 1 ≤ low := by split at hE <;> omega
    refine ⟨_, rfl, _, rfl, _, rfl, p, C, dx, _, _, rfl, hp3, T.cl, T.n1, lf_low, _, _, rfl, rfl, _, _, rfl, ?_⟩
    rw [hA]
    refine ⟨_, _, rfl, rfl, _, _, rfl, ⟨by omega, by omega, by omega, by omega⟩, fun D4 hD4 => ?_⟩
    have monoX : ∀ (l : Nat) (σ2 : L2.St) (H2 : Hp) (Q1 Q2 : VK), (∀ b H3, Q1 b H3 → Q2 b H3) → tOp (rIxL K) (tVar l) (tOp (rI (fun _ j => 0 < j) fun i j => V.int (i % j)) (tVar 8) (tFld K (tVar 0) "modulus")) σ2 H2 Q1 → tOp (rIxL K) (tVar l) (tOp (rI (fun _ j => 0 < j) fun i j => V.int (i % j)) (tVar 8) (tFld K (tVar 0) "modulus")) σ2 H2 Q2 := by
      rintro l σ2 H2 Q1 Q2 h ⟨x1, g1, x2, g2, x3, g3, p', C', dx', fs', v', f1, f2, f3, f4, f5, i2, j2, f6, f7, f8, p3, ys, i3, v3, f9, f10, sq, at_, q⟩
      exact ⟨x1, g1, x2, g2, x3, g3, p', C', dx', fs', v', f1, f2, f3, f4, f5, i2, j2, f6, f7, f8, p3, ys, i3, v3, f9, f10, sq, at_, h _ _ q⟩
    refine lc_itF (G := fun _ => True) walk_range hD4 (fun i => (rowB (fun n => decide (n % (m : Int) ∈ ds)) low i).map V.bl) rfl (fun i hi' => smallB (by rw [List.length_map, rowB_len]; omega)) (fun _ _ => trivial) ?_ ?_ ?_ ?_ ?_
    · rintro i x H4 H5 hi' eD s4 ⟨rfl, rfl⟩
      refine ⟨rfl, _, rfl, _, rfl, _, rfl, p, C, dx, _, _, rfl, s4 _ _ hp3, T.cl, T.n4, lf_modulus, _, _, rfl, rfl, mp', q1, _, _, _, rfl, rfl, SqL.of (s4 _ _ e1), ix_mod mp (by omega) g1 _, eD, s4, ?_⟩
      rw [rowB_succ, List.map_append]
      rfl
    · exact fun x H' Q Q' h q => h _ _ q
    · exact fun σ2 H2 Q1 Q2 h q => h _ _ q
    · exact fun σ2 H2 Q1 Q2 h q => monoX 3 σ2 H2 Q1 Q2 h q
    intro H4 eD4 s4
    have hp4 := s4 _ _ hp3
    refine ⟨_, rfl, .inl ⟨rfl, _, SqL.of eD4⟩, _, rfl, _, rfl, p, C, dx, _, _, rfl, hp4, T.cl, T.n1, lf_low, _, _, rfl, _, rfl, _, rfl, p, C, dx, _, _, rfl, hp4, T.cl, T.n2, lf_high, _, _, rfl, ?_⟩
    rw [hC]
    refine ⟨_, _, rfl, rfl, _, _, rfl, ?_, fun D5 hD5 => ?_⟩
    · rw [hB]
      exact ⟨by omega, by omega, by omega, by omega⟩
    rw [hB]
    refine lc_itF (G := fun _ => True) walk_range hD5 (fun i => (rowB (fun n => decide (n ∈ xs)) B1 i).map V.bl) rfl (fun i hi' => smallB (by rw [List.length_map, rowB_len]; omega)) (fun _ _ => trivial) ?_ ?_ ?_ ?_ ?_
    · rintro i x H5 H6 hi' eD s5 ⟨rfl, rfl⟩
      refine ⟨rfl, _, rfl, _, rfl, D, _, rfl, DGet.k (k := Sum.inl (B1 + (i : Int))) (s5 _ _ (s4 _ _ k1)), eD, s5, ?_⟩
      rw [rowB_succ, List.map_append, k3]
      rfl
    · exact fun x H' Q Q' h q => h _ _ q
    · exact fun σ2 H2 Q1 Q2 h q => h _ _ q
    · rintro σ2 H2 Q1 Q2 h ⟨x1, g1, x2, g2, a, o, f1, f2, q⟩
      exact ⟨x1, g1, x2, g2, a, o, f1, f2, h _ _ q⟩
    intro H5 eD5 s5
    have n45 : D4 ≠ D5 := ne_of_none eD4 hD5
    refine ⟨D4, D5, _, _, rfl, rfl, s5 _ _ eD4, eD5, ?_, ?_⟩
    · rw [List.length_map, List.length_map, rowB_len, rowB_len]
      exact Nat.le_of_lt (smallB (by omega))
    rw [← List.map_append]
    have k1' := s5 _ _ (s4 _ _ k1)
    generalize hH6 : upd H5 D4 (.lst ((rowB (fun n => decide (n % (m : Int) ∈ ds)) low (A1 + 1 - low).toNat ++ rowB (fun n => decide (n ∈ xs)) B1 (C1 + 1 - B1).toNat).map V.bl)) = H6
    have s36 : ∀ b o, b ≠ D4 → H3 b = some o → H6 b = some o := fun b o hb e => by
      rw [← hH6, upd_ne hb]
      exact s5 _ _ (s4 _ _ e)
    have e64 : H6 D4 = some (.lst ((rowB (fun n => decide (n % (m : Int) ∈ ds)) low (A1 + 1 - low).toNat ++ rowB (fun n => decide (n ∈ xs)) B1 (C1 + 1 - B1).toNat).map V.bl)) := by rw [← hH6]; exact upd_same
    have hp6 := s36 _ _ (ne_of_none hp3 hD4) hp3
    have e26 := s36 _ _ (ne_of_none e2 hD4) e2
    refine ⟨_, rfl, .inl ⟨rfl, _, SqL.of e64⟩, _, rfl, _, rfl, p, C, dx, _, _, rfl, hp6, T.cl, T.n2, lf_high, _, _, rfl, rfl, _, _, rfl, _, rfl, _, _, rfl, rfl, _, _, rfl, ?_, fun D6 hD6 => ?_⟩
    · rw [hE]
      exact ⟨by omega, by omega, by omega, by omega⟩
    rw [hE]
    refine lc_itF (G := fun _ => True) walk_range hD6 (fun i => (rowB (fun n => decide (n % (m : Int) ∈ us)) E1 i).map V.bl) rfl (fun i hi' => smallB (by rw [List.length_map, rowB_len]; omega)) (fun _ _ => trivial) ?_ ?_ ?_ ?_ ?_
    · rintro i x H7 H8 hi' eD s7 ⟨rfl, rfl⟩
      refine ⟨rfl, _, rfl, _, rfl, _, rfl, p, C, dx, _, _, rfl, s7 _ _ hp6, T.cl, T.n4, lf_modulus, _, _, rfl, rfl, mp', q2, _, _, _, rfl, rfl, SqL.of (s7 _ _ e26), ix_mod mp (by omega) g2 _, eD, s7, ?_⟩
      rw [rowB_succ, List.map_append]
      rfl
    · exact fun x H' Q Q' h q => h _ _ q
    · exact fun σ2 H2 Q1 Q2 h q => h _ _ q
    · exact fun σ2 H2 Q1 Q2 h q => monoX 4 σ2 H2 Q1 Q2 h q
    intro H7 eD7 s7
    have n47 : D4 ≠ D6 := ne_of_none e64 hD6
    refine ⟨D4, D6, _, _, rfl, rfl, s7 _ _ e64, eD7, ?_, _, rfl, ?_⟩
    · rw [List.length_map, List.length_map, List.length_append, rowB_len, rowB_len, rowB_len]
      exact Nat.le_of_lt (smallB (by omega))
    rw [← List.map_append, rowB_three (f := lotHas lo hi xs m us ds) (n := (high + 1 - low).toNat) (by omega) (fun _ => by omega) (fun _ => by omega)]
    · have sH : Same H H3 := s13
      have nD4 : H D4 = none := (s13.free hD4)
      refine k D4 _ nD4 (fun b o e => ?_) upd_same
      have bD : b ≠ D4 := ne_of_none e nD4
      rw [upd_ne bD]
      exact s7 _ _ (s36 _ _ bD (s13 _ _ e))
    · intro x x0 x1
      unfold lotHas
      rw [if_neg (by omega), if_pos (by omega)]
    · intro x x0 x1
      unfold lotHas; rw [if_neg (by omega), if_neg (by omega)]
    · intro x x0 x1
      unfold lotHas
      rw [if_pos (by omega)]
/-! ### _common_modulus -/
def spCM (K : PySem.W.Frag) : Sp := fun vs H Q E => ∃ (p q : Addr) (lo hi lo2 hi2 : Int) (m m2 : Nat) (xs us ds xs2 us2 ds2 : List Int), vs = [.ref p, .ref q] ∧ LotAt (He.ga K "Lot") H p lo hi xs m us ds ∧ LotAt (He.ga K "Lot") H q lo2 hi2 xs2 m2 us2 ds2 ∧ (m ≤ 10080 ∧ m2 ≤ 10080) ∧
  (Nat.lcm m m2 ≤ 10080 → Q (.int (Nat.lcm m m2 : Nat)) H) ∧ (10080 < Nat.lcm m m2 → ∀ dd H', Same H H' → H' dd = some (.xd [("most", .int 10080)]) → E (.ref (He.ga K "TooLong")) (some dd) H')
abbrev s_cm : Stmt := top 29
abbrev N_cm : List Str := ["one", "other", "modulus"]
theorem sc_cm : FnScope N_cm ["one", "other"] (defScope s_cm) := ⟨rfl, rfl, rfl, by decide +kernel, rfl, by decide +kernel, by decide +kernel⟩
theorem kp_cm (F : At K mg "_common_modulus" s_cm) (S : Lots P w K mg base) (gG : mg "lcm" = some (.builtin "math.lcm")) (mM : ∃ t, mg "MOST_MODULUS" = some (.int 10080 t)) : Keeps (CX P w) P w K mg base "_common_modulus" 3 ["one", "other"] (spCM K) := by
  refine keeps_ofX F sc_cm (fun _ _ _ _ _ _ us hl => match us, hl with | [_, _], _ => rfl) (fun vs H Q E h => ?_) (fun f cdv A outer s H vs Q E hr h => ?_)
  · obtain ⟨p, q, lo, hi, lo2, hi2, m, m2, xs, us, ds, xs2, us2, ds2, rfl, _⟩ := h
    rfl
  · obtain ⟨p, q, lo, hi, lo2, hi2, m, m2, xs, us, ds, xs2, us2, ds2, rfl, ⟨dx, a1, a2, a3, hp, h1, h2, h3⟩, ⟨dx', b1, b2, b3, hq, g1, g2, g3⟩, ⟨mm, mm2⟩, k1, k2⟩ := h
    obtain ⟨tM, mM⟩ := mM
    have T := S.t
    refine ⟨_, (pss_cons (ps_set (i := 2) sc_cm.nd rfl (by walk_at "lv") (pe_callBfun cr_lcm (by rfl) gG (pa_cons (pe_fld (pv 0) rfl) (pa_cons (pe_fld (pv 1) rfl) pa_nil))))
        (pss_cons (ps_if (pt_cmpR op_gt (pv 2) (pe_glob (v := .int 10080) (by rfl) mM ⟨_, rfl⟩) (nomark _)) (pss_one (ps_raise rfl (takes_of rfl rfl rfl rfl) (by exact pmk_tl S hr (by rfl) (pa_cons (pe_glob (v := .int 10080) (by rfl) mM ⟨_, rfl⟩) pa_nil)))) pss_nil)
        (pss_one (ps_ret (pv 2))))), ?_⟩
    refine ⟨_, rfl, p, _, dx, _, _, rfl, hp, T.cl, T.n4, lf_modulus, _, rfl, q, _, dx', _, _, rfl, hq, T.cl, T.n4, lf_modulus, _, _, rfl, by omega, by omega, ?_⟩
    rw [Int.natAbs_natCast, Int.natAbs_natCast]
    refine ⟨_, rfl, _, _, rfl, rfl, _, rfl, ite2 (fun z => ?_) (fun z => ?_)⟩
    · have z := of_decide_eq_true z
      exact mko_ok (K := K) (ys := [.int 10080]) (fun _ q => q) rfl (by show 1 ≤ 1000; decide) fun dd H' s2 ed => k2 (by omega) dd H' s2 ed
    · have z : ¬ (Nat.lcm m m2 : Int) > 10080 := fun y => z (decide_eq_true y)
      exact ⟨_, rfl, k1 (by omega)⟩
end
end My
set_option Elab.async false
set_option linter.all false
set_option maxRecDepth 100000
set_option maxHeartbeats 8000000
namespace My
open PySem PySem.Spec PyProof.Rows L2
local macro_rules | `(tactic| walk_at "lv") => `(tactic| first | exact Or.inl rfl | exact Or.inr rfl)
/-! ### _put_together -/
theorem lotHas_eq (lo hi : Int) (xs : List Int) (m : Nat) (us ds : List Int) (x : Int) : lotHas lo hi xs m us ds x = if hi < x then decide (x % (m : Int) ∈ us) else if x < lo then decide (x % (m : Int) ∈ ds) else decide (x ∈ xs) := rfl
section
variable {P : Program} {w : World} {K : PySem.W.Frag} {mg : Str → Option Value} {base : Heap}
theorem LotEnd.cong {T T' : Tl} {H : Hp} {Q : VK} {E : XK} (e1 : ∀ x, T.has x = T'.has x) (e2 : ∀ x, T.U x = T'.U x) (e3 : ∀ x, T.D x = T'.D x) (h : LotEnd K T H Q E) : LotEnd K T' H Q E := by
  unfold LotEnd insOf resOf at *
  rw [← funext e1, ← funext e2, ← funext e3]
  exact h
/-- what the couple's lots are asked -/
structure Two (K : PySem.W.Frag) (H : Hp) (p q : Addr) (lo hi lo2 hi2 : Int) (m m2 : Nat) (xs us ds xs2 us2 ds2 : List Int) : Prop where
  la : LotAt (He.ga K "Lot") H p lo hi xs m us ds
  lb : LotAt (He.ga K "Lot") H q lo2 hi2 xs2 m2 us2 ds2
  L : LotD lo hi xs m us ds
  L2 : LotD lo2 hi2 xs2 m2 us2 ds2
  z : -1000 ≤ lo ∧ hi ≤ 1000 ∧ -1000 ≤ lo2 ∧ hi2 ≤ 1000
theorem Two.same {H H' : Hp} {p q : Addr} {lo hi lo2 hi2 : Int} {m m2 : Nat} {xs us ds xs2 us2 ds2 : List Int} (s : Same H H') (h : Two K H p q lo hi lo2 hi2 m m2 xs us ds xs2 us2 ds2) : Two K H' p q lo hi lo2 hi2 m m2 xs us ds xs2 us2 ds2 := ⟨h.la.same s, h.lb.same s, h.L, h.L2, h.z⟩
end
end My
set_option Elab.async false
set_option linter.all false
set_option maxRecDepth 100000
set_option maxHeartbeats 8000000
namespace My
open PySem PySem.Spec PyProof.Rows L2
local macro_rules | `(tactic| walk_at "lv") => `(tactic| first | exact Or.inl rfl | exact Or.inr rfl)
section
variable {P : Program} {w : World} {K : PySem.W.Frag} {mg : Str → Option Value} {base : Heap}
/-! ### either_lot, both_lot, less_lot -/
def opL (a b : Bool) : Bool := a && !b
/-! ### least_by_size -/
/-- v is the least number by size that f takes, among those to R -/
def IsLeast (f : Int → Bool) (v : Int) : Prop := f v = true ∧ ∀ n, f n = true → v.natAbs < n.natAbs ∨ (v.natAbs = n.natAbs ∧ v ≤ n)
def spBS : Sp := fun vs H Q _ => ∃ (a : Addr) (f : Int → Bool) (R : Nat), vs = [.ref a] ∧ H a = some (.lst ((rowB f (-(R : Int)) (2 * R + 1)).map V.bl)) ∧ R ≤ 25000 ∧ ((∀ n : Int, n.natAbs ≤ R → f n = false) → Q .non H) ∧
  (∀ v : Int, v.natAbs ≤ R → f v = true → (∀ n : Int, n.natAbs ≤ R → f n = true → v.natAbs < n.natAbs ∨ (v.natAbs = n.natAbs ∧ v ≤ n)) → Q (.int v) H)
abbrev s_bs : Stmt := top 35
abbrev N_bs : List Str := ["flags", "middle", "size"]
theorem sc_bs : FnScope N_bs ["flags"] (defScope s_bs) := ⟨rfl, rfl, rfl, by decide +kernel, rfl, by decide +kernel, by decide +kernel⟩
theorem kp_bs (F : At K mg "least_by_size" s_bs) (N : Nb mg) : Keeps CX0 P w K mg base "least_by_size" 1 ["flags"] spBS := by
  refine keeps_of F sc_bs (fun _ _ _ _ _ _ us hl => match us, hl with | [_], _ => rfl) (fun vs H Q E h => ?_) (fun f cdv A outer s H vs Q E hr h => ?_)
  · obtain ⟨a, g, R, rfl, _⟩ := h
    rfl
  · obtain ⟨a, g, R, rfl, ha, hR, kn, ks⟩ := h
    refine ⟨_, (pss_cons (ps_set (i := 1) sc_bs.nd rfl (by walk_at "lv") (pe_op op_fdiv (pe_callB call_len_seq (by rfl) N.len (by decide +kernel) (pa_cons (pv 0) pa_nil)) pe_int))
        (pss_cons (ps_for PassesOwn.never rfl (pi_range1 (by rfl) N.range (pa_cons (pe_op op_add (pv 1) pe_int) pa_nil)) (pg_name (i := 2) sc_bs.nd rfl (by walk_at "lv")) (pss_cons (ps_if (pt_val (pe_ix ix_list (pv 0) (pe_op op_sub (pv 1) (pv 2)) (fun _ _ => rfl))) (pss_one (ps_ret (pe_un un_neg (pv 2)))) pss_nil) (pss_one (ps_if (pt_val (pe_ix ix_list (pv 0) (pe_op op_add (pv 1) (pv 2)) (fun _ _ => rfl))) (pss_one (ps_ret (pv 2))) pss_nil))))
        (pss_one (ps_ret pe_non)))), ?_⟩
    refine ⟨_, rfl, a, _, rfl, .inl (SqL.of ha), _, _, rfl, rfl, ⟨by decide, by decide⟩, ?_⟩
    rw [List.length_map, rowB_len]
    dsimp only
    rw [show (((2 * R + 1 : Nat) : Int) / 2) = (R : Int) by omega]
    refine ⟨_, rfl, _, _, rfl, rfl, _, rfl, by omega, by omega, ?_⟩
    have gt : ∀ x : Int, x.natAbs ≤ R → atI ((rowB g (-(R : Int)) (2 * R + 1)).map V.bl) ((R : Int) + x) = some (.bl (g x)) := fun x hx => by
      rw [blI_get (by omega) (by rw [rowB_len]; omega), rowB_get (by omega)]
      congr 3
      omega
    refine for_range (fun i σ H4 => ∃ y : Option V, σ = [some (V.ref a), some (V.int R), y] ∧ H4 = H ∧ ∀ n : Int, n.natAbs < i → g n = false) ⟨_, rfl, rfl, fun n hn => absurd hn (Nat.not_lt_zero _)⟩ ?_ ?_
    · rintro i σ H4 hi ⟨y, rfl, rfl, inv⟩
      have hi' : i < R + 1 := by omega
      rw [Int.zero_add]
      refine ⟨_, rfl, _, rfl, _, rfl, _, _, rfl, rfl, a, _, _, _, rfl, rfl, SqL.of ha, gt (-(i : Int)) (by omega), _, rfl, ?_⟩
      cases e1 : g (-(i : Int)) with
      | true =>
        refine iteT ⟨_, rfl, _, rfl, ks (-(i : Int)) (by omega) e1 fun n hn hg => ?_⟩
        rcases Nat.lt_or_ge n.natAbs i with q | q
        · rw [inv n q] at hg; cases hg
        · omega
      | false =>
        refine iteF ⟨_, rfl, _, rfl, _, rfl, _, _, rfl, rfl, a, _, _, _, rfl, rfl, SqL.of ha, gt (i : Int) (by omega), _, rfl, ?_⟩
        cases e2 : g (i : Int) with
        | true =>
          refine iteT ⟨_, rfl, ks (i : Int) (by omega) e2 fun n hn hg => ?_⟩
          rcases Nat.lt_or_ge n.natAbs i with q | q
          · rw [inv n q] at hg; cases hg
          · by_cases z : n = -(i : Int)
            · rw [z, e1] at hg; cases hg
            · omega
        | false =>
          refine iteF ⟨_, rfl, rfl, fun n hn => ?_⟩
          rcases Nat.lt_or_ge n.natAbs i with q | q
          · exact inv n q
          · rcases (show n = (i : Int) ∨ n = -(i : Int) by omega) with z | z
            · rw [z]; exact e2
            · rw [z]; exact e1
    · rintro σ H4 ⟨y, rfl, rfl, inv⟩
      exact kn fun n hn => inv n (by omega)
end
end My
set_option Elab.async false
set_option linter.all false
set_option maxRecDepth 100000
set_option maxHeartbeats 8000000
namespace My
open PySem PySem.Spec PyProof.Rows L2
local macro_rules | `(tactic| walk_at "lv") => `(tactic| first | exact Or.inl rfl | exact Or.inr rfl)
/-- beyond the ends a lot's numbers come round -/
theorem lot_round {lo hi : Int} {m L : Nat} {xs us ds : List Int} (sz : lo ≤ hi + 1) (d : m ∣ L) {x y : Int} (e : x % (L : Int) = y % (L : Int)) (h : (hi < x ∧ hi < y) ∨ (x < lo ∧ y < lo)) : lotHas lo hi xs m us ds x = lotHas lo hi xs m us ds y := by
  have e2 : x % (m : Int) = y % (m : Int) := by
    rw [← Int.emod_emod_of_dvd x (Int.ofNat_dvd.mpr d), ← Int.emod_emod_of_dvd y (Int.ofNat_dvd.mpr d), e]
  rw [lotHas_eq, lotHas_eq, e2]
  rcases h with h | h
  · rw [if_pos h.1, if_pos h.2]
  · rw [if_neg (by omega), if_pos h.1, if_neg (by omega), if_pos h.2]
/-- what some far number shows, a near one shows -/
theorem near_one {f : Int → Bool} {B : Int} {L : Nat} (hL : 0 < L) (hB : 0 ≤ B) (hr : ∀ x y : Int, x % (L : Int) = y % (L : Int) → ((B < x ∧ B < y) ∨ (x < -B ∧ y < -B)) → f x = f y) {n : Int} (hn : f n = true) : ∃ y : Int, -(B + L) ≤ y ∧ y ≤ B + L ∧ f y = true := by
  have L0 : (0 : Int) < (L : Int) := by omega
  by_cases c1 : B < n
  · have d1 := Int.emod_nonneg (n - B - 1) (by omega : (L : Int) ≠ 0)
    have d2 := Int.emod_lt_of_pos (n - B - 1) L0
    refine ⟨B + 1 + (n - B - 1) % (L : Int), by omega, by omega, ?_⟩
    rw [hr _ n ?_ (.inl ⟨by omega, c1⟩)]
    · exact hn
    · rw [Int.add_emod_emod]
      congr 1
      omega
  · by_cases c2 : n < -B
    · have d1 := Int.emod_nonneg (n + B) (by omega : (L : Int) ≠ 0)
      have d2 := Int.emod_lt_of_pos (n + B) L0
      refine ⟨(n + B) % (L : Int) - B - L, by omega, by omega, ?_⟩
      rw [hr _ n ?_ (.inr ⟨by omega, c2⟩)]
      · exact hn
      · rw [show (n + B) % (L : Int) - B - L = (-B + (n + B) % (L : Int)) - (L : Int) by omega, Int.sub_emod_right, Int.add_emod_emod]
        congr 1
        omega
    · exact ⟨n, by omega, by omega, hn⟩
section
variable {P : Program} {w : World} {K : PySem.W.Frag} {mg : Str → Option Value} {base : Heap}
/-! ### within -/
def WiRes (f : Int → Bool) (v : V) : Prop := (v = .non ∧ ∀ n, f n = false) ∨ ∃ a : Int, v = .int a ∧ IsLeast f a
theorem WiRes.unique {f g : Int → Bool} {v u : V} (e : ∀ n, f n = g n) (a : WiRes f v) (b : WiRes g u) : v = u := by
  have e : f = g := funext e
  subst e
  rcases a with ⟨rfl, a1⟩ | ⟨a, rfl, a1, a2⟩ <;> rcases b with ⟨rfl, b1⟩ | ⟨b, rfl, b1, b2⟩
  · rfl
  · rw [a1] at b1; cases b1
  · rw [b1] at a1; cases a1
  · have h1 := a2 b b1
    have h2 := b2 a a1
    have : a = b := by omega
    rw [this]
def spWi (K : PySem.W.Frag) : Sp := fun vs H Q E => ∃ (p q : Addr) (lo hi lo2 hi2 : Int) (m m2 : Nat) (xs us ds xs2 us2 ds2 : List Int), vs = [.ref p, .ref q] ∧ Two K H p q lo hi lo2 hi2 m m2 xs us ds xs2 us2 ds2 ∧
  (Nat.lcm m m2 ≤ 10080 → ∀ v H', Same H H' → WiRes (fun n => opL (lotHas lo hi xs m us ds n) (lotHas lo2 hi2 xs2 m2 us2 ds2 n)) v → Q v H') ∧
  (10080 < Nat.lcm m m2 → ∀ dd H', Same H H' → H' dd = some (.xd [("most", .int 10080)]) → E (.ref (He.ga K "TooLong")) (some dd) H')
abbrev s_wi : Stmt := top 34
abbrev N_wi : List Str := ["one", "other", "reach", "held", "missing", "end", "at", "told"]
theorem sc_wi : FnScope N_wi ["one", "other"] (defScope s_wi) := ⟨rfl, rfl, rfl, by decide +kernel, rfl, by decide +kernel, by decide +kernel⟩
theorem kp_wi (F : At K mg "within" s_wi) (T : LotTxt K mg (He.ga K "Lot")) (N : Nb mg) (nMax : mg "max" = none) (Gc : Keeps (CX P w) P w K mg base "_common_modulus" 3 ["one", "other"] (spCM K)) (Gf : Keeps CX0 P w K mg base "lot_flags" 2 ["lot", "low", "high"] (spLF (He.ga K "Lot")))
    (Gb : Keeps CX0 P w K mg base "least_by_size" 1 ["flags"] spBS) : Keeps (CX P w) P w K mg base "within" 4 ["one", "other"] (spWi K) := by
  refine keeps_ofX F sc_wi (fun _ _ _ _ _ _ us hl => match us, hl with | [_, _], _ => rfl) (fun vs H Q E h => ?_) (fun f cdv A outer s H vs Q E hr h => ?_)
  · obtain ⟨p, q, lo, hi, lo2, hi2, m, m2, xs, us, ds, xs2, us2, ds2, rfl, _⟩ := h
    rfl
  · obtain ⟨p, q, lo, hi, lo2, hi2, m, m2, xs, us, ds, xs2, us2, ds2, rfl, W, kT, kE⟩ := h
    have h2 : Room 2 (A.deeper (envOfC "within" (defScope s_wi) s.heap.objs.size f cdv)) := hr.mono (by decide)
    have h1 : Room 1 (A.deeper (envOfC "within" (defScope s_wi) s.heap.objs.size f cdv)) := hr.mono (by decide)
    have L := W.L
    have L2 := W.L2
    have wz := W.z
    have s1 := L.sz
    have s2 := L2.sz
    refine ⟨_, (pss_cons (ps_set (i := 2) sc_wi.nd rfl (by walk_at "lv") (pe_callB (cr_max (by rfl)) (by rfl) nMax (by decide +kernel) (pa_cons (pe_lc (own := [("end", 5)]) (g := gName 5) (tt := tYes) rfl sc_wi.nd (pi_tup (pe_tup (pa_cons (pe_fld (pv 0) rfl) (pa_cons (pe_fld (pv 0) rfl) (pa_cons (pe_fld (pv 1) rfl) (pa_cons (pe_fld (pv 1) rfl) pa_nil)))))) (blkOk_by (N := N_wi) (sc := defScope s_wi) (by decide +kernel)) (fun _ _ _ _ _ => (pg_name (i := 5) sc_wi.nd rfl (by walk_at "lv"))) (fun _ _ _ _ _ => pts_nil) (fun _ _ _ _ _ => (pe_callB call_abs (by rfl) N.abs boot_abs (pa_cons (pv 5) pa_nil)))) pa_nil)))
        (pss_cons (ps_aug (i := 2) sc_wi.nd rfl (by walk_at "lv") (pe_k Gc hr (by rfl) (passes_call (takes_of rfl rfl rfl rfl) (fun _ _ _ _ h => h)) (pa_cons (pv 0) (pa_cons (pv 1) pa_nil))) ip_add)
        (pss_cons (ps_set (i := 3) sc_wi.nd rfl (by walk_at "lv") (pe_k Gf h2 (by rfl) pass0 (pa_cons (pv 1) (pa_cons (pe_un un_neg (pv 2)) (pa_cons (pv 2) pa_nil)))))
        (pss_cons (ps_setLc (i := 4) (own := [("at", 6), ("told", 7)]) (g := gTup K 2 (gCons (gName 6) (gCons (gName 7) gNil))) (tt := tYes) rfl sc_wi.nd rfl rfl (sw_true rfl rfl rfl (by decide +kernel)) (pi_enum (by rfl) N.enumerate (pa_cons (pe_k Gf h2 (by rfl) pass0 (pa_cons (pv 0) (pa_cons (pe_un un_neg (pv 2)) (pa_cons (pv 2) pa_nil)))) pa_nil)) (blkOk_by (N := N_wi) (sc := defScope s_wi) (by decide +kernel)) (fun _ _ _ _ _ => (pg_tup (by rfl) (pgs_cons (pg_name (i := 6) sc_wi.nd rfl (by walk_at "lv")) (pgs_cons (pg_name (i := 7) sc_wi.nd rfl (by walk_at "lv")) pgs_nil)))) (fun _ _ _ _ _ => pts_nil) (fun _ _ _ _ _ => (pe_and (pv 7) (pe_one (pe_not (pe_ix (r := rIxL K) ix_list (pv 3) (pv 6) (fun _ _ => rfl)))))))
        (pss_one (ps_ret (pe_k Gb h1 (by rfl) pass0 (pa_cons (pv 4) pa_nil)))))))), ?_⟩
    obtain ⟨dx, a1, a2, a3, hp, hp1, hp2, hp3⟩ := id W.la
    obtain ⟨dx', c1, c2, c3, hq, hq1, hq2, hq3⟩ := id W.lb
    refine ⟨_, rfl, p, _, dx, _, _, rfl, hp, T.cl, T.n1, lf_low, _, rfl, p, _, dx, _, _, rfl, hp, T.cl, T.n2, lf_high, _, rfl, q, _, dx', _, _, rfl, hq, T.cl, T.n1, lf_low, _, rfl, q, _, dx', _, _, rfl, hq, T.cl, T.n2, lf_high, (by show 4 ≤ sizeLine; decide), fun t ht => ⟨t, rfl, ⟨_, SqT.of upd_same⟩, fun D hD => ?_⟩⟩
    have st := same_new (o := .tup [V.int lo, V.int hi, V.int lo2, V.int hi2]) (Same.refl H) ht
    have et : (upd H t (.tup [V.int lo, V.int hi, V.int lo2, V.int hi2])) t = some (.tup (([lo, hi, lo2, hi2] : List Int).map V.int)) := upd_same
    generalize upd H t (.tup [V.int lo, V.int hi, V.int lo2, V.int hi2]) = H1 at st et hD ⊢
    refine lc_it (walk_tup (K := K) (a := t) (xs := ([lo, hi, lo2, hi2] : List Int).map V.int)) (fun i H3 => H3 D = some (.lst (((([lo, hi, lo2, hi2] : List Int).map fun n => if n < 0 then -n else n).take i).map V.int)) ∧ Same H1 H3) ⟨upd_same, same_new (Same.refl H1) hD⟩ (fun i H3 _ h => SqT.of (h.2 _ _ et)) ?_ ?_
    · rintro i v H3 H4 hi' ⟨eD, s3⟩ ⟨rfl, e4⟩
      obtain ⟨n, hn, rfl⟩ := int_at e4
      have il : i < 4 := hi'
      refine ⟨rfl, _, rfl, _, rfl, _, eD, smallB (by rw [List.length_map, List.length_take]; omega), ?_, fun b o e => ?_⟩
      · rw [List.take_succ, List.getElem?_map, hn, List.map_append]
        exact upd_same
      · rw [upd_ne (ne_of_none e hD)]
        exact s3 b o e
    rintro H3 ⟨eD, s3⟩
    have eD : H3 D = some (.lst ((([lo, hi, lo2, hi2] : List Int).map fun n => if n < 0 then -n else n).map V.int)) := eD
    refine ⟨D, _, rfl, SqL.of eD, Nat.succ_pos _, fun B hB hBm => ?_⟩
    have hb : ∀ n ∈ ([lo, hi, lo2, hi2] : List Int), n ≤ B ∧ -n ≤ B := fun n hn => by
      have := hBm _ (List.mem_map.mpr ⟨n, hn, rfl⟩)
      split at this <;> omega
    have hB1 : 0 ≤ B ∧ B ≤ 1001 := by
      obtain ⟨n, hn, e⟩ := List.mem_map.mp hB
      have : n = lo ∨ n = hi ∨ n = lo2 ∨ n = hi2 := by simpa using hn
      split at e <;> omega
    have b1 := hb lo (by simp)
    have b2 := hb hi (by simp)
    have b3 := hb lo2 (by simp)
    have b4 := hb hi2 (by simp)
    have s03 := st.trans s3
    have W3 := W.same s03
    refine ⟨_, rfl, _, rfl, _, rfl, p, q, lo, hi, lo2, hi2, m, m2, xs, us, ds, xs2, us2, ds2, rfl, W3.la, W3.lb, ⟨L.m1, L2.m1⟩, fun hM => ?_, fun z dd H' s4 e => kE z dd H' (s03.trans s4) e⟩
    have d1 : m ∣ Nat.lcm m m2 := Nat.dvd_lcm_left _ _
    have d2 : m2 ∣ Nat.lcm m m2 := Nat.dvd_lcm_right _ _
    have M0 : 0 < Nat.lcm m m2 := Nat.lcm_pos L.pos L2.pos
    have kT2 := kT hM
    generalize Nat.lcm m m2 = M at *
    obtain ⟨R, hR⟩ := Int.eq_ofNat_of_zero_le (show 0 ≤ B + (M : Int) by omega)
    have rg : -(R : Int) ≤ (R : Int) + 1 ∧ -100000 ≤ -(R : Int) ∧ (R : Int) ≤ 100000 ∧ (R : Int) - -(R : Int) < 50000 := by omega
    refine ⟨_, _, rfl, rfl, ?_⟩
    dsimp only
    rw [hR]
    refine ⟨_, rfl, _, rfl, _, rfl, _, rfl, q, -(R : Int), R, lo2, hi2, m2, xs2, us2, ds2, rfl, W3.lb, L2, rg, fun f1 H4 n4 s4 e4 => ?_⟩
    have s04 := s03.trans s4
    refine ⟨_, rfl, _, rfl, _, rfl, _, rfl, p, -(R : Int), R, lo, hi, m, xs, us, ds, rfl, W3.la.same s4, L, rg, fun f2 H5 n5 s5 e5 => ⟨f2, _, rfl, SqL.of e5, fun D2 hD2 => ?_⟩⟩
    rw [show ((R : Int) + 1 - -(R : Int)).toNat = 2 * R + 1 by omega] at e4 e5
    have e4 := s5 _ _ e4
    refine lc_it walk_enum (fun i H6 => H6 D2 = some (.lst ((rowB (fun n => opL (lotHas lo hi xs m us ds n) (lotHas lo2 hi2 xs2 m2 us2 ds2 n)) (-(R : Int)) i).map V.bl)) ∧ Same H5 H6) ⟨upd_same, same_new (Same.refl H5) hD2⟩ (fun i H6 _ h => h.2.seq (SqL.of e5)) ?_ ?_
    · rintro i v H6 H7 hi' ⟨eD2, s6⟩ ⟨Tn, u, y, rfl, nT, rfl, e6, e7⟩
      cases Option.some.inj e6
      have il : i < 2 * R + 1 := by rw [List.length_map, rowB_len] at hi'; exact hi'
      have ey : y = V.bl (lotHas lo hi xs m us ds (-(R : Int) + (i : Int))) := by
        dsimp only at e7
        unfold rowB at e7
        rw [List.map_map, List.getElem?_map, List.getElem?_range il] at e7
        exact (Option.some.inj e7).symm
      subst ey
      have s7 := same_new (o := .tup [V.int (i : Nat), V.bl (lotHas lo hi xs m us ds (-(R : Int) + (i : Int)))]) s6 nT
      have nDT : D2 ≠ Tn := ne_of_none eD2 nT
      have eD7 : (upd H6 Tn (.tup [V.int (i : Nat), V.bl (lotHas lo hi xs m us ds (-(R : Int) + (i : Int)))])) D2 = some (.lst ((rowB (fun n => opL (lotHas lo hi xs m us ds n) (lotHas lo2 hi2 xs2 m2 us2 ds2 n)) (-(R : Int)) i).map V.bl)) := by rw [upd_ne nDT]; exact eD2
      refine ⟨Tn, _, rfl, SqT.of upd_same, rfl, _, _, rfl, _, _, rfl, rfl, ?_⟩
      have fin : ∀ b : Bool, b = opL (lotHas lo hi xs m us ds (-(R : Int) + (i : Int))) (lotHas lo2 hi2 xs2 m2 us2 ds2 (-(R : Int) + (i : Int))) → ∃ acc, (upd H6 Tn (.tup [V.int (i : Nat), V.bl (lotHas lo hi xs m us ds (-(R : Int) + (i : Int)))])) D2 = some (.lst acc) ∧ acc.length < sizeLine ∧ ((upd (upd H6 Tn (.tup [V.int (i : Nat), V.bl (lotHas lo hi xs m us ds (-(R : Int) + (i : Int)))])) D2 (.lst (acc ++ [V.bl b]))) D2 = some (.lst ((rowB (fun n => opL (lotHas lo hi xs m us ds n) (lotHas lo2 hi2 xs2 m2 us2 ds2 n)) (-(R : Int)) (i + 1)).map V.bl)) ∧ Same H5 (upd (upd H6 Tn (.tup [V.int (i : Nat), V.bl (lotHas lo hi xs m us ds (-(R : Int) + (i : Int)))])) D2 (.lst (acc ++ [V.bl b])))) := fun b hb => by
        refine ⟨_, eD7, smallB (by rw [List.length_map, rowB_len]; omega), ?_, fun c o e => ?_⟩
        · rw [rowB_succ, List.map_append, ← hb]
          exact upd_same
        · rw [upd_ne (ne_of_none e hD2)]
          exact s7 c o e
      refine ⟨rfl, _, rfl, _, rfl, ?_⟩
      cases hb : lotHas lo hi xs m us ds (-(R : Int) + (i : Int)) with
      | false =>
        rw [hb] at fin
        exact iteF (fin false rfl)
      | true =>
        rw [hb] at fin s7
        refine iteT ⟨_, rfl, _, rfl, f1, _, _, _, rfl, rfl, SqL.of (s7 _ _ e4), blI_get (i := (i : Int)) (by omega) (by rw [rowB_len]; omega), _, rfl, ?_⟩
        refine fin _ ?_
        rw [show ((i : Int)).toNat = i by omega, rowB_get il]
        rfl
    rintro H6 ⟨eD2, s6⟩
    rw [List.length_map, rowB_len] at eD2
    have s06 := (s04.trans s5).trans s6
    have per : ∀ x y : Int, x % (M : Int) = y % (M : Int) → ((B < x ∧ B < y) ∨ (x < -B ∧ y < -B)) → opL (lotHas lo hi xs m us ds x) (lotHas lo2 hi2 xs2 m2 us2 ds2 x) = opL (lotHas lo hi xs m us ds y) (lotHas lo2 hi2 xs2 m2 us2 ds2 y) := fun x y e h => by
      rw [lot_round s1 d1 e (by omega), lot_round s2 d2 e (by omega)]
    refine ⟨_, rfl, D2, _, R, rfl, eD2, by omega, fun h => ?_, fun v hv fv least => ?_⟩
    · refine kT2 _ H6 s06 (.inl ⟨rfl, fun n => ?_⟩)
      refine Bool.eq_false_iff.mpr fun z => ?_
      obtain ⟨y, y1, y2, y3⟩ := near_one (f := fun n => opL (lotHas lo hi xs m us ds n) (lotHas lo2 hi2 xs2 m2 us2 ds2 n)) M0 hB1.1 per z
      rw [h y (by omega)] at y3
      cases y3
    · refine kT2 _ H6 s06 (.inr ⟨v, rfl, fv, fun n hn => ?_⟩)
      by_cases c : n.natAbs ≤ R
      · exact least n c hn
      · omega
end
end My
set_option linter.all false
namespace My
/-! ### rests -/
theorem bez (m n : Nat) : ∃ a b : Int, ((Nat.gcd m n : Nat) : Int) = (m : Int) * a + (n : Int) * b := by
  induction m, n using Nat.gcd.induction with
  | H0 n => exact ⟨0, 1, by simp⟩
  | H1 m n hm ih =>
    obtain ⟨a, b, e⟩ := ih
    refine ⟨b - ((n / m : Nat) : Int) * a, a, ?_⟩
    rw [Nat.gcd_rec, e]
    have h : ((n % m : Nat) : Int) = (n : Int) - (m : Int) * ((n / m : Nat) : Int) := by
      have := Nat.mod_add_div n m
      omega
    rw [h, Int.sub_mul, Int.mul_sub, Int.mul_assoc]
    omega
/-- u and r agree by the greatest common divisor: some x, as high or as low as one likes, is u by m and r by n -/
theorem crt_ex {m n : Nat} {u r : Int} (h : r % ((Nat.gcd m n : Nat) : Int) = u % ((Nat.gcd m n : Nat) : Int)) :
    ∃ k : Int, ∀ t : Int, (u + (k + n * t) * m) % (m : Int) = u % (m : Int) ∧ (u + (k + n * t) * m) % (n : Int) = r % (n : Int) := by
  obtain ⟨q, hq⟩ := Int.dvd_of_emod_eq_zero (Int.emod_eq_emod_iff_emod_sub_eq_zero.mp h)
  obtain ⟨a, b, bz⟩ := bez m n
  refine ⟨a * q, fun t => ⟨Int.add_mul_emod_self_right _ _ _, ?_⟩⟩
  refine Int.emod_eq_emod_iff_emod_sub_eq_zero.mpr (Int.emod_eq_zero_of_dvd ⟨t * m - b * q, ?_⟩)
  have e : r = u + ((m : Int) * a * q + (n : Int) * b * q) := by rw [← Int.add_mul, ← bz]; omega
  rw [e, Int.add_mul, Int.mul_sub]
  have a1 : a * q * m = (m : Int) * a * q := by rw [Int.mul_comm _ (m : Int), ← Int.mul_assoc]
  have a2 : (n : Int) * t * m = (n : Int) * (t * m) := Int.mul_assoc _ _ _
  have a3 : (n : Int) * (b * q) = (n : Int) * b * q := (Int.mul_assoc _ _ _).symm
  rw [a1, a2, a3]
  omega
/-- what rest_lot gathers -/
def RestS (xs : List Int) (m : Nat) (us ds : List Int) (n : Nat) (x : Int) : Prop := (∃ y ∈ xs, y % (n : Int) = x) ∨ ∃ u ∈ us ++ ds, x % ((Nat.gcd m n : Nat) : Int) = u % ((Nat.gcd m n : Nat) : Int)
theorem mod_gcd {m n : Nat} (x : Int) : (x % (n : Int)) % ((Nat.gcd m n : Nat) : Int) = x % ((Nat.gcd m n : Nat) : Int) :=
  Int.emod_emod_of_dvd x (Int.ofNat_dvd.mpr (Nat.gcd_dvd_right m n))
theorem mod_gcdL {m n : Nat} (x : Int) : (x % (m : Int)) % ((Nat.gcd m n : Nat) : Int) = x % ((Nat.gcd m n : Nat) : Int) :=
  Int.emod_emod_of_dvd x (Int.ofNat_dvd.mpr (Nat.gcd_dvd_left m n))
/-- the rests of a lot's numbers -/
theorem rest_iff {lo hi : Int} {m n : Nat} {xs us ds : List Int} (hm : 0 < m) (hn : 0 < n) (sz : lo ≤ hi + 1) (hi_ : ∀ y ∈ xs, lo ≤ y ∧ y ≤ hi) (hu : ∀ r ∈ us, 0 ≤ r ∧ r < m) (hd : ∀ r ∈ ds, 0 ≤ r ∧ r < m) {r : Int} (r0 : 0 ≤ r) (r1 : r < n) :
    RestS xs m us ds n r ↔ ∃ x, lotHas lo hi xs m us ds x = true ∧ x % (n : Int) = r := by
  have er : r % (n : Int) = r := Int.emod_eq_of_lt r0 r1
  have p1 : (1 : Int) ≤ (m : Int) * n := by
    have := Nat.mul_pos hm hn
    have e : ((m * n : Nat) : Int) = (m : Int) * n := by push_cast; rfl
    omega
  constructor
  · rintro (⟨y, hy, e⟩ | ⟨u, hu', e⟩)
    · refine ⟨y, ?_, e⟩
      have := hi_ y hy
      unfold lotHas; rw [if_neg (by omega), if_neg (by omega)]
      exact decide_eq_true hy
    · obtain ⟨k, hk⟩ := crt_ex e
      have far : ∀ B : Int, ∃ t : Int, B < u + (k + n * t) * m := fun B => by
        refine ⟨(B - u - k * m).natAbs + 1, ?_⟩
        have e1 : u + (k + (n : Int) * (((B - u - k * m).natAbs : Int) + 1)) * m = u + k * m + ((m : Int) * n) * (((B - u - k * m).natAbs : Int) + 1) := by
          rw [Int.add_mul, Int.mul_comm ((n : Int) * _) (m : Int), ← Int.mul_assoc]; omega
        rw [e1]
        have e2 : (1 : Int) * (((B - u - k * m).natAbs : Int) + 1) ≤ ((m : Int) * n) * (((B - u - k * m).natAbs : Int) + 1) := Int.mul_le_mul_of_nonneg_right p1 (by omega)
        generalize ((m : Int) * n) * (((B - u - k * m).natAbs : Int) + 1) = z at *
        generalize k * (m : Int) = w at *
        omega
      have low : ∀ B : Int, ∃ t : Int, u + (k + n * t) * m < B := fun B => by
        refine ⟨-((B - u - k * m).natAbs + 1), ?_⟩
        have e1 : u + (k + (n : Int) * (-(((B - u - k * m).natAbs : Int) + 1))) * m = u + k * m - ((m : Int) * n) * (((B - u - k * m).natAbs : Int) + 1) := by
          rw [Int.mul_neg, Int.add_mul, Int.neg_mul, Int.mul_comm ((n : Int) * _) (m : Int), ← Int.mul_assoc]; omega
        rw [e1]
        have e2 : (1 : Int) * (((B - u - k * m).natAbs : Int) + 1) ≤ ((m : Int) * n) * (((B - u - k * m).natAbs : Int) + 1) := Int.mul_le_mul_of_nonneg_right p1 (by omega)
        generalize ((m : Int) * n) * (((B - u - k * m).natAbs : Int) + 1) = z at *
        generalize k * (m : Int) = w at *
        omega
      rcases List.mem_append.mp hu' with h | h
      · obtain ⟨t, ht⟩ := far hi
        refine ⟨_, ?_, (hk t).2.trans er⟩
        unfold lotHas
        rw [if_pos ht, (hk t).1, Int.emod_eq_of_lt (hu u h).1 (hu u h).2]
        exact decide_eq_true h
      · obtain ⟨t, ht⟩ := low lo
        refine ⟨_, ?_, (hk t).2.trans er⟩
        unfold lotHas
        rw [if_neg (by omega), if_pos ht, (hk t).1, Int.emod_eq_of_lt (hd u h).1 (hd u h).2]
        exact decide_eq_true h
  · rintro ⟨x, hx, e⟩
    unfold lotHas at hx
    by_cases h1 : hi < x
    · rw [if_pos h1] at hx
      refine .inr ⟨_, List.mem_append_left _ (of_decide_eq_true hx), ?_⟩
      rw [← e, mod_gcd, mod_gcdL]
    · rw [if_neg h1] at hx
      by_cases h2 : x < lo
      · rw [if_pos h2] at hx
        refine .inr ⟨_, List.mem_append_right _ (of_decide_eq_true hx), ?_⟩
        rw [← e, mod_gcd, mod_gcdL]
      · rw [if_neg h2] at hx
        exact .inl ⟨x, of_decide_eq_true hx, e⟩
/-- the rests within the law's window are the rests of all numbers -/
theorem win_iff {T : Tl} (ok : T.Ok) {n : Nat} (hn : 0 < n) (r : Int) : (∃ x, T.lo - (T.us.length : Int) * n ≤ x ∧ x < T.hi + (T.us.length : Int) * n + 1 ∧ T.has x = true ∧ x % (n : Int) = r) ↔ ∃ x, T.has x = true ∧ x % (n : Int) = r := by
  constructor
  · rintro ⟨x, _, _, h, e⟩
    exact ⟨x, h, e⟩
  · rintro ⟨x, h, e⟩
    have hp := ok.pos
    have pos : (0 : Int) < (T.us.length : Int) * n := by
      have := Nat.mul_pos hp hn
      have e : ((T.us.length * n : Nat) : Int) = (T.us.length : Int) * n := by push_cast; rfl
      omega
    have hh : T.hi = T.lo + T.cs.length - 1 := rfl
    have sh : ∀ (f : Int → Bool), Per f T.m → ∀ y k : Int, f (y + (T.us.length : Int) * n * k) = f y := fun f hf y k => by
      rw [Int.mul_assoc]
      exact hf.mulI _ _
    have md : ∀ y k : Int, (y + (T.us.length : Int) * n * k) % (n : Int) = y % (n : Int) := fun y k => by
      rw [Int.mul_comm (T.us.length : Int), Int.mul_assoc]
      exact Int.add_mul_emod_self_left _ _ _
    generalize hM : (T.us.length : Int) * n = M at *
    by_cases h1 : T.hi < x
    · have d1 := Int.emod_add_mul_ediv (x - T.hi - 1) M
      have d2 := Int.emod_nonneg (x - T.hi - 1) (by omega : M ≠ 0)
      have d3 := Int.emod_lt_of_pos (x - T.hi - 1) pos
      have ex : T.hi + 1 + (x - T.hi - 1) % M = x + M * (-((x - T.hi - 1) / M)) := by rw [Int.mul_neg]; omega
      refine ⟨T.hi + 1 + (x - T.hi - 1) % M, by omega, by omega, ?_, ?_⟩
      · rw [Tl.above (by omega), ex, sh T.U ok.pu, ← Tl.above h1]
        exact h
      · rw [ex, md]
        exact e
    · by_cases h2 : x < T.lo
      · have d1 := Int.emod_add_mul_ediv (x - T.lo) M
        have d2 := Int.emod_nonneg (x - T.lo) (by omega : M ≠ 0)
        have d3 := Int.emod_lt_of_pos (x - T.lo) pos
        have ex : T.lo - M + (x - T.lo) % M = x + M * (-((x - T.lo) / M) - 1) := by rw [Int.mul_sub, Int.mul_neg]; omega
        refine ⟨T.lo - M + (x - T.lo) % M, by omega, by omega, ?_, ?_⟩
        · rw [Tl.below (by omega), ex, sh T.D ok.pd, ← Tl.below h2]
          exact h
        · rw [ex, md]
          exact e
      · exact ⟨x, by omega, by omega, h, e⟩
end My
set_option Elab.async false
set_option linter.all false
set_option maxRecDepth 100000
set_option maxHeartbeats 8000000
namespace My
open PySem PySem.Spec PyProof.Rows L2
local macro_rules | `(tactic| walk_at "lv") => `(tactic| first | exact Or.inl rfl | exact Or.inr rfl)
/-! ### moved_lot, turned_lot -/
/-- a lot's data, as the walks need them -/
structure LotS (lo hi : Int) (xs : List Int) (m : Nat) (us ds : List Int) : Prop where
  sz : lo ≤ hi + 1
  sz2 : hi + 1 - lo < 1000
  b1 : -20000 ≤ lo
  b2 : hi ≤ 20000
  i : ∀ n ∈ xs, lo ≤ n ∧ n ≤ hi
  u : ∀ r ∈ us, 0 ≤ r ∧ r < m
  d : ∀ r ∈ ds, 0 ≤ r ∧ r < m
  pos : 0 < m
  m1 : m ≤ 1000
  li : xs.length ≤ 1000
  lu : us.length ≤ 1000
  ld : ds.length ≤ 1000
theorem take_int {ns : List Int} {i : Nat} {n : Int} (h : ns[i]? = some n) (f : Int → Int) : ((ns.take (i + 1)).map f).map V.int = ((ns.take i).map f).map V.int ++ [.int (f n)] := by
  rw [List.take_succ, h, List.map_append, List.map_append]
  rfl
theorem take_all {ns : List Int} (f : Int → Int) : ((ns.take (ns.map V.int).length).map f).map V.int = (ns.map f).map V.int := by
  rw [List.length_map, List.take_length]
theorem take_small {ns : List Int} (f : Int → Int) (i : Nat) (h : ns.length ≤ 1000) : (((ns.take i).map f).map V.int).length < sizeLine := by
  refine small1000 ?_
  rw [List.length_map, List.length_map, List.length_take]
  omega
section
variable {P : Program} {w : World} {K : PySem.W.Frag} {mg : Str → Option Value} {base : Heap}
def spMoved (K : PySem.W.Frag) : Sp := fun vs H Q E => ∃ (p : Addr) (b lo hi : Int) (m : Nat) (xs us ds : List Int), vs = [.ref p, .int b] ∧ LotAt (He.ga K "Lot") H p lo hi xs m us ds ∧ LotS lo hi xs m us ds ∧ (-(9 * 10 ^ 30) ≤ b ∧ b ≤ 9 * 10 ^ 30) ∧
  LotEnd K (tlOf (lo + b) (hi + 1 - lo).toNat (xs.map (· + b)) m (us.map fun r => (r + b) % (m : Int)) (ds.map fun r => (r + b) % (m : Int))) H Q E
abbrev s_moved : Stmt := top 31
abbrev N_moved : List Str := ["lot", "by", "inside", "ups", "downs", "number", "rest"]
theorem sc_moved : FnScope N_moved ["lot", "by"] (defScope s_moved) := ⟨rfl, rfl, rfl, by decide +kernel, rfl, by decide +kernel, by decide +kernel⟩
theorem kp_moved (F : At K mg "moved_lot" s_moved) (T : LotTxt K mg (He.ga K "Lot")) (Gl_ : Keeps (CX P w) P w K mg base "_lot_of" 3 ["low", "high", "inside", "modulus", "ups", "downs"] (spLotOf K)) :
    Keeps (CX P w) P w K mg base "moved_lot" 4 ["lot", "by"] (spMoved K) := by
  refine keeps_ofX F sc_moved (fun _ _ _ _ _ _ us hl => match us, hl with | [_, _], _ => rfl) (fun vs H Q E h => ?_) (fun f cdv A outer s H vs Q E hr h => ?_)
  · obtain ⟨p, b, lo, hi, m, xs, us, ds, rfl, _⟩ := h
    rfl
  · obtain ⟨p, b, lo, hi, m, xs, us, ds, rfl, ⟨dx, a1, a2, a3, hp, h1, h2, h3⟩, L, bb, k⟩ := h
    have sz := L.sz
    have sz2 := L.sz2
    have l1 := L.b1
    have l2 := L.b2
    have mp := L.pos
    refine ⟨_, (pss_cons (ps_setLc (i := 2) (own := [("number", 5)]) (g := gName 5) (tt := tYes) rfl sc_moved.nd rfl rfl (sw_true rfl rfl rfl (by decide +kernel)) (pi_tup (pe_fld (pv 0) rfl)) (blkOk_by (N := N_moved) (sc := defScope s_moved) (by decide +kernel)) (fun _ _ _ _ _ => (pg_name (i := 5) sc_moved.nd rfl (by walk_at "lv"))) (fun _ _ _ _ _ => pts_nil) (fun _ _ _ _ _ => (pe_op op_add (pv 5) (pv 1))))
        (pss_cons (ps_setLc (i := 3) (own := [("rest", 6)]) (g := gName 6) (tt := tYes) rfl sc_moved.nd rfl rfl (sw_true rfl rfl rfl (by decide +kernel)) (pi_tup (pe_fld (pv 0) rfl)) (blkOk_by (N := N_moved) (sc := defScope s_moved) (by decide +kernel)) (fun _ _ _ _ _ => (pg_name (i := 6) sc_moved.nd rfl (by walk_at "lv"))) (fun _ _ _ _ _ => pts_nil) (fun _ _ _ _ _ => (pe_op op_mod (pe_op op_add (pv 6) (pv 1)) (tb := tFld K (tVar 0) "modulus") (pe_fld (pv 0) rfl))))
        (pss_cons (ps_setLc (i := 4) (own := [("rest", 6)]) (g := gName 6) (tt := tYes) rfl sc_moved.nd rfl rfl (sw_true rfl rfl rfl (by decide +kernel)) (pi_tup (pe_fld (pv 0) rfl)) (blkOk_by (N := N_moved) (sc := defScope s_moved) (by decide +kernel)) (fun _ _ _ _ _ => (pg_name (i := 6) sc_moved.nd rfl (by walk_at "lv"))) (fun _ _ _ _ _ => pts_nil) (fun _ _ _ _ _ => (pe_op op_mod (pe_op op_add (pv 6) (pv 1)) (tb := tFld K (tVar 0) "modulus") (pe_fld (pv 0) rfl))))
        (pss_one (ps_ret (pe_k Gl_ hr (by rfl) (passes_call (takes_of rfl rfl rfl rfl) (fun _ _ _ _ h => h)) (pa_cons (pe_op op_add (pe_fld (pv 0) rfl) (pv 1)) (pa_cons (pe_op op_add (pe_fld (pv 0) rfl) (pv 1)) (pa_cons (pv 2) (pa_cons (pe_fld (pv 0) rfl) (pa_cons (pv 3) (pa_cons (pv 4) pa_nil)))))))))))), ?_⟩
    refine ⟨_, rfl, p, _, dx, _, _, rfl, hp, T.cl, T.n3, lf_inside, a1, rfl, ⟨_, SqT.of h1⟩, fun D hD => ?_⟩
    refine lc_itF (G := fun H2 => SqT K H2 a1 (xs.map V.int)) (walk_tup (K := K) (a := a1) (xs := xs.map V.int)) hD (fun i => ((xs.take i).map (· + b)).map V.int) rfl (fun i _ => take_small _ i L.li) (fun H2 s2 => SqT.of (s2 _ _ h1)) ?_ ?_ ?_ ?_ ?_
    · rintro i x H2 H3 hi' eD s2 ⟨rfl, e4⟩
      obtain ⟨n, hn, rfl⟩ := int_at e4
      exact ⟨rfl, _, rfl, _, rfl, _, _, rfl, rfl, eD, s2, take_int hn _⟩
    · exact fun x H' Q Q' h q => h _ _ q
    · exact fun σ2 H2 Q1 Q2 h q => h _ _ q
    · rintro σ2 H2 Q1 Q2 h ⟨x1, g1, x2, g2, i, j, e1, e2, q⟩
      exact ⟨x1, g1, x2, g2, i, j, e1, e2, h _ _ q⟩
    intro H4 eD s4
    rw [take_all] at eD
    refine ⟨_, rfl, p, _, dx, _, _, rfl, s4 _ _ hp, T.cl, T.n5, lf_ups, a2, rfl, ⟨_, SqT.of (s4 _ _ h2)⟩, fun D2 hD2 => ?_⟩
    refine lc_itF (G := fun H2 => SqT K H2 a2 (us.map V.int)) (walk_tup (K := K) (a := a2) (xs := us.map V.int)) hD2 (fun i => ((us.take i).map fun r => (r + b) % (m : Int)).map V.int) rfl (fun i _ => take_small _ i L.lu) (fun H2 s2 => SqT.of (s2 _ _ (s4 _ _ h2))) ?_ ?_ ?_ ?_ ?_
    · rintro i x H2 H3 hi' eD2 s2 ⟨rfl, e4⟩
      obtain ⟨n, hn, rfl⟩ := int_at e4
      exact ⟨rfl, _, rfl, _, rfl, _, _, rfl, rfl, _, rfl, p, _, dx, _, _, rfl, s2 _ _ (s4 _ _ hp), T.cl, T.n4, lf_modulus, _, _, rfl, rfl, (by omega : (0 : Int) < (m : Int)), eD2, s2, take_int hn _⟩
    · exact fun x H' Q Q' h q => h _ _ q
    · exact fun σ2 H2 Q1 Q2 h q => h _ _ q
    · rintro σ2 H2 Q1 Q2 h ⟨x1, g1, x2, g2, i, j, e1, e2, x3, g3, p', C', dx', fs', v', e3, e4, e5, e6, e7, i2, j2, e8, e9, e10, q⟩
      exact ⟨x1, g1, x2, g2, i, j, e1, e2, x3, g3, p', C', dx', fs', v', e3, e4, e5, e6, e7, i2, j2, e8, e9, e10, h _ _ q⟩
    intro H5 eD2 s5
    rw [take_all] at eD2
    have s45 := s4.trans s5
    refine ⟨_, rfl, p, _, dx, _, _, rfl, s45 _ _ hp, T.cl, T.n6, lf_downs, a3, rfl, ⟨_, SqT.of (s45 _ _ h3)⟩, fun D3 hD3 => ?_⟩
    refine lc_itF (G := fun H2 => SqT K H2 a3 (ds.map V.int)) (walk_tup (K := K) (a := a3) (xs := ds.map V.int)) hD3 (fun i => ((ds.take i).map fun r => (r + b) % (m : Int)).map V.int) rfl (fun i _ => take_small _ i L.ld) (fun H2 s2 => SqT.of (s2 _ _ (s45 _ _ h3))) ?_ ?_ ?_ ?_ ?_
    · rintro i x H2 H3 hi' eD3 s2 ⟨rfl, e4⟩
      obtain ⟨n, hn, rfl⟩ := int_at e4
      exact ⟨rfl, _, rfl, _, rfl, _, _, rfl, rfl, _, rfl, p, _, dx, _, _, rfl, s2 _ _ (s45 _ _ hp), T.cl, T.n4, lf_modulus, _, _, rfl, rfl, (by omega : (0 : Int) < (m : Int)), eD3, s2, take_int hn _⟩
    · exact fun x H' Q Q' h q => h _ _ q
    · exact fun σ2 H2 Q1 Q2 h q => h _ _ q
    · rintro σ2 H2 Q1 Q2 h ⟨x1, g1, x2, g2, i, j, e1, e2, x3, g3, p', C', dx', fs', v', e3, e4, e5, e6, e7, i2, j2, e8, e9, e10, q⟩
      exact ⟨x1, g1, x2, g2, i, j, e1, e2, x3, g3, p', C', dx', fs', v', e3, e4, e5, e6, e7, i2, j2, e8, e9, e10, h _ _ q⟩
    intro H6 eD3 s6
    rw [take_all] at eD3
    have s46 := s45.trans s6
    have hp6 := s46 _ _ hp
    refine ⟨_, rfl, p, _, dx, _, _, rfl, hp6, T.cl, T.n1, lf_low, _, rfl, _, _, rfl, rfl, _, rfl, p, _, dx, _, _, rfl, hp6, T.cl, T.n2, lf_high, _, rfl, _, _, rfl, rfl, _, rfl, _, rfl, p, _, dx, _, _, rfl, hp6, T.cl, T.n4, lf_modulus, _, rfl, _, rfl, ?_⟩
    refine ⟨tlOf (lo + b) (hi + 1 - lo).toNat (xs.map (· + b)) m (us.map fun r => (r + b) % (m : Int)) (ds.map fun r => (r + b) % (m : Int)), D, D2, D3, _, _, _, ?_, ?_, ?_, ?_, .inl (s6 _ _ (s5 _ _ eD)), .inl (s6 _ _ eD2), .inl eD3, k.same s46⟩
    · rw [tlOf_hi, tlOf_m, show lo + b + ((hi + 1 - lo).toNat : Int) - 1 = hi + b by omega]
      rfl
    · refine ⟨tlOf_ok mp, by rw [tlOf_m]; exact (by have := L.m1; omega), by rw [tlOf_c]; omega, ?_⟩
      show -10 ^ 31 ≤ lo + b ∧ lo + b ≤ 10 ^ 31
      omega
    · rw [tlOf_c]
      omega
    · refine tlOf_told (fun x hx => ?_) (fun x hx => ?_) (fun x hx => ?_)
      · obtain ⟨y, hy, rfl⟩ := List.mem_map.mp hx
        have := L.i y hy
        omega
      · obtain ⟨y, hy, rfl⟩ := List.mem_map.mp hx
        exact ⟨Int.emod_nonneg _ (by omega), Int.emod_lt_of_pos _ (by omega)⟩
      · obtain ⟨y, hy, rfl⟩ := List.mem_map.mp hx
        exact ⟨Int.emod_nonneg _ (by omega), Int.emod_lt_of_pos _ (by omega)⟩
def spTn (K : PySem.W.Frag) : Sp := fun vs H Q E => ∃ (p : Addr) (lo hi : Int) (m : Nat) (xs us ds : List Int), vs = [.ref p] ∧ LotAt (He.ga K "Lot") H p lo hi xs m us ds ∧ LotS lo hi xs m us ds ∧
  LotEnd K (tlOf (-hi) (hi + 1 - lo).toNat (xs.map (-·)) m (ds.map fun r => (-r) % (m : Int)) (us.map fun r => (-r) % (m : Int))) H Q E
abbrev s_tnd : Stmt := top 32
abbrev N_tnd : List Str := ["lot", "inside", "ups", "downs", "number", "rest"]
theorem sc_tnd : FnScope N_tnd ["lot"] (defScope s_tnd) := ⟨rfl, rfl, rfl, by decide +kernel, rfl, by decide +kernel, by decide +kernel⟩
theorem kp_tnd (F : At K mg "turned_lot" s_tnd) (T : LotTxt K mg (He.ga K "Lot")) (Gl_ : Keeps (CX P w) P w K mg base "_lot_of" 3 ["low", "high", "inside", "modulus", "ups", "downs"] (spLotOf K)) :
    Keeps (CX P w) P w K mg base "turned_lot" 4 ["lot"] (spTn K) := by
  refine keeps_ofX F sc_tnd (fun _ _ _ _ _ _ us hl => match us, hl with | [_], _ => rfl) (fun vs H Q E h => ?_) (fun f cdv A outer s H vs Q E hr h => ?_)
  · obtain ⟨p, lo, hi, m, xs, us, ds, rfl, _⟩ := h
    rfl
  · obtain ⟨p, lo, hi, m, xs, us, ds, rfl, ⟨dx, a1, a2, a3, hp, h1, h2, h3⟩, L, k⟩ := h
    have sz := L.sz
    have sz2 := L.sz2
    have l1 := L.b1
    have l2 := L.b2
    have mp := L.pos
    refine ⟨_, (pss_cons (ps_setLc (i := 1) (own := [("number", 4)]) (g := gName 4) (tt := tYes) rfl sc_tnd.nd rfl rfl (sw_true rfl rfl rfl (by decide +kernel)) (pi_tup (pe_fld (pv 0) rfl)) (blkOk_by (N := N_tnd) (sc := defScope s_tnd) (by decide +kernel)) (fun _ _ _ _ _ => (pg_name (i := 4) sc_tnd.nd rfl (by walk_at "lv"))) (fun _ _ _ _ _ => pts_nil) (fun _ _ _ _ _ => (pe_un un_neg (pv 4))))
        (pss_cons (ps_setLc (i := 2) (own := [("rest", 5)]) (g := gName 5) (tt := tYes) rfl sc_tnd.nd rfl rfl (sw_true rfl rfl rfl (by decide +kernel)) (pi_tup (pe_fld (pv 0) rfl)) (blkOk_by (N := N_tnd) (sc := defScope s_tnd) (by decide +kernel)) (fun _ _ _ _ _ => (pg_name (i := 5) sc_tnd.nd rfl (by walk_at "lv"))) (fun _ _ _ _ _ => pts_nil) (fun _ _ _ _ _ => (pe_op op_mod (pe_un un_neg (pv 5)) (tb := tFld K (tVar 0) "modulus") (pe_fld (pv 0) rfl))))
        (pss_cons (ps_setLc (i := 3) (own := [("rest", 5)]) (g := gName 5) (tt := tYes) rfl sc_tnd.nd rfl rfl (sw_true rfl rfl rfl (by decide +kernel)) (pi_tup (pe_fld (pv 0) rfl)) (blkOk_by (N := N_tnd) (sc := defScope s_tnd) (by decide +kernel)) (fun _ _ _ _ _ => (pg_name (i := 5) sc_tnd.nd rfl (by walk_at "lv"))) (fun _ _ _ _ _ => pts_nil) (fun _ _ _ _ _ => (pe_op op_mod (pe_un un_neg (pv 5)) (tb := tFld K (tVar 0) "modulus") (pe_fld (pv 0) rfl))))
        (pss_one (ps_ret (pe_k Gl_ hr (by rfl) (passes_call (takes_of rfl rfl rfl rfl) (fun _ _ _ _ h => h)) (pa_cons (pe_un un_neg (pe_fld (pv 0) rfl)) (pa_cons (pe_un un_neg (pe_fld (pv 0) rfl)) (pa_cons (pv 1) (pa_cons (pe_fld (pv 0) rfl) (pa_cons (pv 2) (pa_cons (pv 3) pa_nil)))))))))))), ?_⟩
    refine ⟨_, rfl, p, _, dx, _, _, rfl, hp, T.cl, T.n3, lf_inside, a1, rfl, ⟨_, SqT.of h1⟩, fun D hD => ?_⟩
    refine lc_itF (G := fun H2 => SqT K H2 a1 (xs.map V.int)) (walk_tup (K := K) (a := a1) (xs := xs.map V.int)) hD (fun i => ((xs.take i).map (-·)).map V.int) rfl (fun i _ => take_small _ i L.li) (fun H2 s2 => SqT.of (s2 _ _ h1)) ?_ ?_ ?_ ?_ ?_
    · rintro i x H2 H3 hi' eD s2 ⟨rfl, e4⟩
      obtain ⟨n, hn, rfl⟩ := int_at e4
      exact ⟨rfl, _, rfl, _, rfl, eD, s2, take_int hn _⟩
    · exact fun x H' Q Q' h q => h _ _ q
    · exact fun σ2 H2 Q1 Q2 h q => h _ _ q
    · rintro σ2 H2 Q1 Q2 h ⟨x1, g1, i, e1, q⟩
      exact ⟨x1, g1, i, e1, h _ _ q⟩
    intro H4 eD s4
    rw [take_all] at eD
    refine ⟨_, rfl, p, _, dx, _, _, rfl, s4 _ _ hp, T.cl, T.n6, lf_downs, a3, rfl, ⟨_, SqT.of (s4 _ _ h3)⟩, fun D2 hD2 => ?_⟩
    refine lc_itF (G := fun H2 => SqT K H2 a3 (ds.map V.int)) (walk_tup (K := K) (a := a3) (xs := ds.map V.int)) hD2 (fun i => ((ds.take i).map fun r => (-r) % (m : Int)).map V.int) rfl (fun i _ => take_small _ i L.ld) (fun H2 s2 => SqT.of (s2 _ _ (s4 _ _ h3))) ?_ ?_ ?_ ?_ ?_
    · rintro i x H2 H3 hi' eD2 s2 ⟨rfl, e4⟩
      obtain ⟨n, hn, rfl⟩ := int_at e4
      exact ⟨rfl, _, rfl, _, rfl, _, rfl, p, _, dx, _, _, rfl, s2 _ _ (s4 _ _ hp), T.cl, T.n4, lf_modulus, _, _, rfl, rfl, (by omega : (0 : Int) < (m : Int)), eD2, s2, take_int hn _⟩
    · exact fun x H' Q Q' h q => h _ _ q
    · exact fun σ2 H2 Q1 Q2 h q => h _ _ q
    · rintro σ2 H2 Q1 Q2 h ⟨x1, g1, i, e1, x3, g3, p', C', dx', fs', v', e3, e4, e5, e6, e7, i2, j2, e8, e9, e10, q⟩
      exact ⟨x1, g1, i, e1, x3, g3, p', C', dx', fs', v', e3, e4, e5, e6, e7, i2, j2, e8, e9, e10, h _ _ q⟩
    intro H5 eD2 s5
    rw [take_all] at eD2
    have s45 := s4.trans s5
    refine ⟨_, rfl, p, _, dx, _, _, rfl, s45 _ _ hp, T.cl, T.n5, lf_ups, a2, rfl, ⟨_, SqT.of (s45 _ _ h2)⟩, fun D3 hD3 => ?_⟩
    refine lc_itF (G := fun H2 => SqT K H2 a2 (us.map V.int)) (walk_tup (K := K) (a := a2) (xs := us.map V.int)) hD3 (fun i => ((us.take i).map fun r => (-r) % (m : Int)).map V.int) rfl (fun i _ => take_small _ i L.lu) (fun H2 s2 => SqT.of (s2 _ _ (s45 _ _ h2))) ?_ ?_ ?_ ?_ ?_
    · rintro i x H2 H3 hi' eD3 s2 ⟨rfl, e4⟩
      obtain ⟨n, hn, rfl⟩ := int_at e4
      exact ⟨rfl, _, rfl, _, rfl, _, rfl, p, _, dx, _, _, rfl, s2 _ _ (s45 _ _ hp), T.cl, T.n4, lf_modulus, _, _, rfl, rfl, (by omega : (0 : Int) < (m : Int)), eD3, s2, take_int hn _⟩
    · exact fun x H' Q Q' h q => h _ _ q
    · exact fun σ2 H2 Q1 Q2 h q => h _ _ q
    · rintro σ2 H2 Q1 Q2 h ⟨x1, g1, i, e1, x3, g3, p', C', dx', fs', v', e3, e4, e5, e6, e7, i2, j2, e8, e9, e10, q⟩
      exact ⟨x1, g1, i, e1, x3, g3, p', C', dx', fs', v', e3, e4, e5, e6, e7, i2, j2, e8, e9, e10, h _ _ q⟩
    intro H6 eD3 s6
    rw [take_all] at eD3
    have s46 := s45.trans s6
    have hp6 := s46 _ _ hp
    refine ⟨_, rfl, p, _, dx, _, _, rfl, hp6, T.cl, T.n2, lf_high, _, rfl, _, rfl, p, _, dx, _, _, rfl, hp6, T.cl, T.n1, lf_low, _, rfl, _, rfl, _, rfl, p, _, dx, _, _, rfl, hp6, T.cl, T.n4, lf_modulus, _, rfl, _, rfl, ?_⟩
    refine ⟨tlOf (-hi) (hi + 1 - lo).toNat (xs.map (-·)) m (ds.map fun r => (-r) % (m : Int)) (us.map fun r => (-r) % (m : Int)), D, D2, D3, _, _, _, ?_, ?_, ?_, ?_, .inl (s6 _ _ (s5 _ _ eD)), .inl (s6 _ _ eD2), .inl eD3, k.same s46⟩
    · rw [tlOf_hi, tlOf_m, show -hi + ((hi + 1 - lo).toNat : Int) - 1 = -lo by omega]
      rfl
    · refine ⟨tlOf_ok mp, by rw [tlOf_m]; exact (by have := L.m1; omega), by rw [tlOf_c]; omega, ?_⟩
      show -10 ^ 31 ≤ -hi ∧ -hi ≤ 10 ^ 31
      omega
    · rw [tlOf_c]
      omega
    · refine tlOf_told (fun x hx => ?_) (fun x hx => ?_) (fun x hx => ?_)
      · obtain ⟨y, hy, rfl⟩ := List.mem_map.mp hx
        have := L.i y hy
        omega
      · obtain ⟨y, hy, rfl⟩ := List.mem_map.mp hx
        exact ⟨Int.emod_nonneg _ (by omega), Int.emod_lt_of_pos _ (by omega)⟩
      · obtain ⟨y, hy, rfl⟩ := List.mem_map.mp hx
        exact ⟨Int.emod_nonneg _ (by omega), Int.emod_lt_of_pos _ (by omega)⟩
end
end My
set_option Elab.async false
set_option linter.all false
set_option maxRecDepth 100000
set_option maxHeartbeats 8000000
namespace My
open PySem PySem.Spec PyProof.Rows L2
local macro_rules | `(tactic| walk_at "lv") => `(tactic| first | exact Or.inl rfl | exact Or.inr rfl)
section
variable {P : Program} {w : World} {K : PySem.W.Frag} {mg : Str → Option Value} {base : Heap}
/-! ### Lot.__init__ of three tuples; empty_lot, whole_lot -/
def spLotJ (C : Addr) : Sp := fun vs H Q _ => ∃ (p dx a b c : Addr) (lo hi : Int) (m : Nat) (xs us ds : List Int), vs = [.ref p, .int lo, .int hi, .ref a, .int m, .ref b, .ref c] ∧ H p = some (.ins C dx []) ∧
  H a = some (.tup (xs.map V.int)) ∧ H b = some (.tup (us.map V.int)) ∧ H c = some (.tup (ds.map V.int)) ∧
  ∀ H', LotAt C H' p lo hi xs m us ds → (∀ x o, x ≠ p → H x = some o → H' x = some o) → Q .non H'
theorem kp_lotJ {C g : Addr} (F : AtM K C g "__init__" "Lot.__init__" s_lotI) (T : LotTxt K mg C) (N : Nb mg) : KeepsM P w K mg base g 1 ["self", "low", "high", "inside", "modulus", "ups", "downs"] (spLotJ C) := by
  refine keepsM_of F sc_lotI (fun _ _ _ _ _ _ us hl => match us, hl with | [_, _, _, _, _, _, _], _ => rfl) (fun vs H Q E h => ?_) (fun cdv A outer s H vs Q E hr h => ?_)
  · obtain ⟨p, dx, a, b, c, lo, hi, m, xs, us, ds, rfl, _⟩ := h
    rfl
  · obtain ⟨p, dx, a, b, c, lo, hi, m, xs, us, ds, rfl, hp, ha, hb, hc, k⟩ := h
    refine ⟨_, (pss_cons (ps_fld (pv 0) (pv 1) rfl)
        (pss_cons (ps_fld (pv 0) (pv 2) rfl)
        (pss_cons (ps_fld (pv 0) (pe_callTy call_tuple_of (by rfl) N.tuple (by decide +kernel) (pa_cons (pv 3) pa_nil)) rfl)
        (pss_cons (ps_fld (pv 0) (pv 4) rfl)
        (pss_cons (ps_fld (pv 0) (pe_callTy call_tuple_of (by rfl) N.tuple (by decide +kernel) (pa_cons (pv 5) pa_nil)) rfl)
        (pss_one (ps_fld (pv 0) (pe_callTy call_tuple_of (by rfl) N.tuple (by decide +kernel) (pa_cons (pv 6) pa_nil)) rfl))))))), ?_⟩
    have pa : a ≠ p := ne_of ha hp (by intro z; cases z)
    have pb : b ≠ p := ne_of hb hp (by intro z; cases z)
    have pc : c ≠ p := ne_of hc hp (by intro z; cases z)
    have f1 : (putF "low" (V.int lo) []).length ≤ 1 := putF_small (Nat.le_refl 0)
    have f2 := putF_small (f := "high") (v := V.int hi) f1
    have f3 := putF_small (f := "inside") (v := V.ref a) f2
    have f4 := putF_small (f := "modulus") (v := V.int m) f3
    have f5 := putF_small (f := "ups") (v := V.ref b) f4
    refine ⟨_, rfl, _, rfl, p, C, dx, _, rfl, hp, T.cl, T.n1, (by show 0 < 1000; decide), ?_⟩
    refine ⟨_, rfl, _, rfl, p, C, dx, _, rfl, upd_same, T.cl, T.n2, (by omega), ?_⟩
    refine ⟨_, rfl, a, _, rfl, .inr ⟨SqT.of (by rw [upd_ne pa, upd_ne pa]; exact ha), ?_⟩⟩
    refine ⟨_, rfl, p, C, dx, _, rfl, upd_same, T.cl, T.n3, (by omega), ?_⟩
    refine ⟨_, rfl, _, rfl, p, C, dx, _, rfl, upd_same, T.cl, T.n4, (by omega), ?_⟩
    refine ⟨_, rfl, b, _, rfl, .inr ⟨SqT.of (by rw [upd_ne pb, upd_ne pb, upd_ne pb, upd_ne pb]; exact hb), ?_⟩⟩
    refine ⟨_, rfl, p, C, dx, _, rfl, upd_same, T.cl, T.n5, (by omega), ?_⟩
    refine ⟨_, rfl, c, _, rfl, .inr ⟨SqT.of (by rw [upd_ne pc, upd_ne pc, upd_ne pc, upd_ne pc, upd_ne pc]; exact hc), ?_⟩⟩
    refine ⟨_, rfl, p, C, dx, _, rfl, upd_same, T.cl, T.n6, (by omega), ?_⟩
    refine k _ ⟨dx, a, b, c, upd_same, ?_, ?_, ?_⟩ fun x o hx e => ?_
    · rw [upd_ne pa, upd_ne pa, upd_ne pa, upd_ne pa, upd_ne pa, upd_ne pa]; exact ha
    · rw [upd_ne pb, upd_ne pb, upd_ne pb, upd_ne pb, upd_ne pb, upd_ne pb]; exact hb
    · rw [upd_ne pc, upd_ne pc, upd_ne pc, upd_ne pc, upd_ne pc, upd_ne pc]; exact hc
    · rw [upd_ne hx, upd_ne hx, upd_ne hx, upd_ne hx, upd_ne hx, upd_ne hx]; exact e
def spLit (K : PySem.W.Frag) (us ds : List Int) : Sp := fun vs H Q _ => vs = [] ∧ ∀ p H', Same H H' → LotAt (He.ga K "Lot") H' p 0 (-1) [] 1 us ds → Q (.ref p) H'
abbrev s_emp : Stmt := top 25
theorem sc_emp : FnScope [] [] (defScope s_emp) := ⟨rfl, rfl, rfl, by decide +kernel, rfl, by decide +kernel, by decide +kernel⟩
theorem kp_emp (F : At K mg "empty_lot" s_emp) (S : Lots P w K mg base) (J : KeepsM P w K mg base (He.ma K (He.ga K "Lot") "__init__") 1 ["self", "low", "high", "inside", "modulus", "ups", "downs"] (spLotJ (He.ga K "Lot"))) :
    Keeps CX0 P w K mg base "empty_lot" 3 [] (spLit K [] []) := by
  obtain ⟨fdI, FI, bI⟩ := J
  refine keeps_of F sc_emp (fun _ _ _ _ _ _ us hl => match us, hl with | [], _ => rfl) (fun vs H Q E h => ?_) (fun f cdv A outer s H vs Q E hr h => ?_)
  · obtain ⟨rfl, _⟩ := h
    rfl
  · obtain ⟨rfl, k⟩ := h
    refine ⟨_, (pss_one (ps_ret (pe_make S.m FI hr (by rfl) S.t.mgC bI .nil pass0 (pa_cons pe_int (pa_cons (pe_un un_neg pe_int) (pa_cons (pe_tup pa_nil) (pa_cons pe_int (pa_cons (pe_tup pa_nil) (pa_cons (pe_tup pa_nil) pa_nil))))))))), ?_⟩
    have z0 : (0 : Nat) ≤ sizeLine := Nat.zero_le _
    refine ⟨_, rfl, z0, fun a ha => ⟨z0, fun b hb => ⟨z0, fun c hc => ?_⟩⟩⟩
    intro x dx hx hdx ne
    have ab : a ≠ b := ne_of_none upd_same hb
    have bc : b ≠ c := ne_of_none upd_same hc
    have ac : a ≠ c := ne_of_none (by rw [upd_ne ab]; exact upd_same) hc
    have sx : ∀ q o, (upd (upd (upd H a (.tup [])) b (.tup [])) c (.tup [])) q = some o → (upd (upd (upd (upd (upd H a (.tup [])) b (.tup [])) c (.tup [])) dx (.own x)) x (.ins (He.ga K "Lot") dx [])) q = some o := fun q o e => by
      rw [upd_ne (ne_of_none e hx), upd_ne (ne_of_none e hdx)]
      exact e
    refine ⟨x, dx, a, b, c, 0, -1, 1, [], [], [], rfl, upd_same, sx _ _ (by rw [upd_ne ac, upd_ne ab]; exact upd_same), sx _ _ (by rw [upd_ne bc]; exact upd_same), sx _ _ upd_same, fun H7 la keep => ⟨rfl, ?_⟩⟩
    refine k x H7 (fun q o e => ?_) la
    have s3 := same_new (o := .tup []) (same_new (o := .tup []) (same_new (o := .tup []) (Same.refl H) ha) hb) hc
    exact keep q o (ne_of_none (s3 _ _ e) hx) (sx _ _ (s3 _ _ e))
abbrev s_whl : Stmt := top 26
theorem sc_whl : FnScope [] [] (defScope s_whl) := ⟨rfl, rfl, rfl, by decide +kernel, rfl, by decide +kernel, by decide +kernel⟩
theorem kp_whl (F : At K mg "whole_lot" s_whl) (S : Lots P w K mg base) (J : KeepsM P w K mg base (He.ma K (He.ga K "Lot") "__init__") 1 ["self", "low", "high", "inside", "modulus", "ups", "downs"] (spLotJ (He.ga K "Lot"))) :
    Keeps CX0 P w K mg base "whole_lot" 3 [] (spLit K [0] [0]) := by
  obtain ⟨fdI, FI, bI⟩ := J
  refine keeps_of F sc_whl (fun _ _ _ _ _ _ us hl => match us, hl with | [], _ => rfl) (fun vs H Q E h => ?_) (fun f cdv A outer s H vs Q E hr h => ?_)
  · obtain ⟨rfl, _⟩ := h
    rfl
  · obtain ⟨rfl, k⟩ := h
    refine ⟨_, (pss_one (ps_ret (pe_make S.m FI hr (by rfl) S.t.mgC bI .nil pass0 (pa_cons pe_int (pa_cons (pe_un un_neg pe_int) (pa_cons (pe_tup pa_nil) (pa_cons pe_int (pa_cons (pe_tup (pa_cons pe_int pa_nil)) (pa_cons (pe_tup (pa_cons pe_int pa_nil)) pa_nil))))))))), ?_⟩
    have z0 : (0 : Nat) ≤ sizeLine := Nat.zero_le _
    have z1 : (1 : Nat) ≤ sizeLine := by decide
    refine ⟨_, rfl, z0, fun a ha => ⟨z1, fun b hb => ⟨z1, fun c hc => ?_⟩⟩⟩
    intro x dx hx hdx ne
    have ab : a ≠ b := ne_of_none upd_same hb
    have bc : b ≠ c := ne_of_none upd_same hc
    have ac : a ≠ c := ne_of_none (by rw [upd_ne ab]; exact upd_same) hc
    have sx : ∀ q o, (upd (upd (upd H a (.tup [])) b (.tup [.int 0])) c (.tup [.int 0])) q = some o → (upd (upd (upd (upd (upd H a (.tup [])) b (.tup [.int 0])) c (.tup [.int 0])) dx (.own x)) x (.ins (He.ga K "Lot") dx [])) q = some o := fun q o e => by
      rw [upd_ne (ne_of_none e hx), upd_ne (ne_of_none e hdx)]
      exact e
    refine ⟨x, dx, a, b, c, 0, -1, 1, [], [0], [0], rfl, upd_same, sx _ _ (by rw [upd_ne ac, upd_ne ab]; exact upd_same), sx _ _ (by rw [upd_ne bc]; exact upd_same), sx _ _ upd_same, fun H7 la keep => ⟨rfl, ?_⟩⟩
    refine k x H7 (fun q o e => ?_) la
    have s3 := same_new (o := .tup [.int 0]) (same_new (o := .tup [.int 0]) (same_new (o := .tup []) (Same.refl H) ha) hb) hc
    exact keep q o (ne_of_none (s3 _ _ e) hx) (sx _ _ (s3 _ _ e))
end
end My
set_option Elab.async false
set_option linter.all false
set_option maxRecDepth 100000
set_option maxHeartbeats 8000000
namespace My
open PySem PySem.Spec PyProof.Rows L2
local macro_rules | `(tactic| walk_at "lv") => `(tactic| first | exact Or.inl rfl | exact Or.inr rfl)
section
variable {P : Program} {w : World} {K : PySem.W.Frag} {mg : Str → Option Value} {base : Heap}
/-! ### just_lot, range_lot -/
theorem num_told {lo : Int} {n : Nat} {ns : List Int} (h : ∀ x ∈ ns, lo ≤ x ∧ x ≤ lo + n - 1) : Told (tlOf lo n ns 1 [] []) ns [] [] := tlOf_told h (fun _ z => nomatch z) (fun _ z => nomatch z)
def spJust (K : PySem.W.Frag) : Sp := fun vs H Q E => ∃ (a : Addr) (ns : List Int), vs = [.ref a] ∧ H a = some (.lst (ns.map V.int)) ∧ (∀ n ∈ ns, -20000 ≤ n ∧ n ≤ 20000) ∧ (∀ x ∈ ns, ∀ y ∈ ns, y - x < 900) ∧
  (ns = [] → ∀ p H', Same H H' → LotAt (He.ga K "Lot") H' p 0 (-1) [] 1 [] [] → Q (.ref p) H') ∧
  ∀ lo hi, lo ∈ ns → (∀ y ∈ ns, lo ≤ y) → hi ∈ ns → (∀ y ∈ ns, y ≤ hi) → LotEnd K (tlOf lo (hi + 1 - lo).toNat ns 1 [] []) H Q E
abbrev s_just : Stmt := top 27
abbrev N_just : List Str := ["numbers"]
theorem sc_just : FnScope N_just ["numbers"] (defScope s_just) := ⟨rfl, rfl, rfl, by decide +kernel, rfl, by decide +kernel, by decide +kernel⟩
theorem pe_k0 {X : L2.Cx} {CX : CXT} {k : Nat} {sp : Sp} {E : XK} {x : Str} {p pos : Pos} (h : Keeps CX X.prog X.w X.K X.mg X.base x k [] sp) (hr : Room k X.A) (hg : Gl X x) (hx : Passes CX X E) (dbg : (x == ("__debug__" : Str)) = false := by decide) :
    PE X (.Call (.Name x p) [] [] pos) (tCall sp [] E tNil) := by
  obtain ⟨fd, F, b, kp, m⟩ := h
  exact pe_call0 F hr hg m kp b .nil hx dbg
theorem kp_just (F : At K mg "just_lot" s_just) (nMin : mg "min" = none) (nMax : mg "max" = none) (Ge : Keeps CX0 P w K mg base "empty_lot" 3 [] (spLit K [] [])) (Gl_ : Keeps (CX P w) P w K mg base "_lot_of" 3 ["low", "high", "inside", "modulus", "ups", "downs"] (spLotOf K)) :
    Keeps (CX P w) P w K mg base "just_lot" 4 ["numbers"] (spJust K) := by
  refine keeps_ofX F sc_just (fun _ _ _ _ _ _ us hl => match us, hl with | [_], _ => rfl) (fun vs H Q E h => ?_) (fun f cdv A outer s H vs Q E hr h => ?_)
  · obtain ⟨a, ns, rfl, _⟩ := h
    rfl
  · obtain ⟨a, ns, rfl, ha, b, far, k0, k⟩ := h
    refine ⟨_, (pss_cons (ps_if (pt_not (pt_truth (pv 0) (by intro _; rfl))) (pss_one (ps_ret (pe_k0 Ge hr (by rfl) pass0))) pss_nil)
        (pss_one (ps_ret (pe_k Gl_ hr (by rfl) (passes_call (takes_of rfl rfl rfl rfl) (fun _ _ _ _ h => h)) (pa_cons (pe_callB (cr_min (by rfl)) (by rfl) nMin (by decide +kernel) (pa_cons (pv 0) pa_nil)) (pa_cons (pe_callB (cr_max (by rfl)) (by rfl) nMax (by decide +kernel) (pa_cons (pv 0) pa_nil)) (pa_cons (pv 0) (pa_cons pe_int (pa_cons (pe_tup pa_nil) (pa_cons (pe_tup pa_nil) pa_nil)))))))))), ?_⟩
    refine ⟨_, rfl, !(ns.map V.int).isEmpty, .inl ⟨_, SqL.of ha, rfl⟩, ?_⟩
    cases ns with
    | nil =>
      refine iteT ⟨rfl, fun p H1 s1 l => k0 rfl p H1 s1 l⟩
    | cons n0 nr =>
      refine iteF ⟨_, rfl, a, n0 :: nr, rfl, SqL.of ha, Nat.succ_pos _, fun lo hlo llo => ⟨_, rfl, a, n0 :: nr, rfl, SqL.of ha, Nat.succ_pos _, fun hi hhi lhi => ⟨_, rfl, Nat.zero_le _, fun u hu => ⟨Nat.zero_le _, fun d hd => ?_⟩⟩⟩⟩
      have f0 := far lo hlo hi hhi
      have l0 := llo hi hhi
      have b1 := b lo hlo
      have s2 := same_new (o := .tup []) (same_new (o := .tup []) (Same.refl H) hu) hd
      have ud : u ≠ d := ne_of_none upd_same hd
      refine ⟨tlOf lo (hi + 1 - lo).toNat (n0 :: nr) 1 [] [], a, u, d, n0 :: nr, [], [], ?_, ?_, ?_, ?_, .inl (s2 _ _ ha), .inr (by rw [upd_ne ud]; exact upd_same), .inr upd_same, (k lo hi hlo llo hhi lhi).same s2⟩
      · rw [tlOf_hi, tlOf_m, show lo + ((hi + 1 - lo).toNat : Int) - 1 = hi by omega]
        rfl
      · refine ⟨tlOf_ok (by decide), by rw [tlOf_m]; decide, by rw [tlOf_c]; omega, ?_⟩
        show -10 ^ 31 ≤ lo ∧ lo ≤ 10 ^ 31
        omega
      · rw [tlOf_c]
        omega
      · exact num_told fun x hx => ⟨llo x hx, by have := lhi x hx; omega⟩
end
end My
set_option Elab.async false
set_option linter.all false
set_option maxRecDepth 100000
set_option maxHeartbeats 8000000
namespace My
open PySem PySem.Spec PyProof.Rows L2
local macro_rules | `(tactic| walk_at "lv") => `(tactic| first | exact Or.inl rfl | exact Or.inr rfl)
section
variable {P : Program} {w : World} {K : PySem.W.Frag} {mg : Str → Option Value} {base : Heap}
/-! ### range_lot -/
theorem rgV_irow (a b : Int) : rgV a b = (irow a (b - a).toNat).map V.int := by
  unfold rgV irow
  rw [List.map_map]
  rfl
theorem half_told {lo : Int} {us ds : List Int} (hu : ∀ x ∈ us, 0 ≤ x ∧ x < ((1 : Nat) : Int)) (hd : ∀ x ∈ ds, 0 ≤ x ∧ x < ((1 : Nat) : Int)) : Told (tlOf lo 0 [] 1 us ds) [] us ds := tlOf_told (fun _ z => nomatch z) hu hd
def spRange (K : PySem.W.Frag) : Sp := fun vs H Q E =>
  (vs = [.non, .non] ∧ ∀ p H', Same H H' → LotAt (He.ga K "Lot") H' p 0 (-1) [] 1 [0] [0] → Q (.ref p) H') ∨
  (∃ h : Int, vs = [.non, .int h] ∧ (-20000 ≤ h ∧ h ≤ 20000) ∧ LotEnd K (tlOf (h + 1) 0 [] 1 [] [0]) H Q E) ∨
  (∃ l : Int, vs = [.int l, .non] ∧ (-20000 ≤ l ∧ l ≤ 20000) ∧ LotEnd K (tlOf l 0 [] 1 [0] []) H Q E) ∨
  (∃ l h : Int, vs = [.int l, .int h] ∧ h < l ∧ ∀ p H', Same H H' → LotAt (He.ga K "Lot") H' p 0 (-1) [] 1 [] [] → Q (.ref p) H') ∨
  ∃ l h : Int, vs = [.int l, .int h] ∧ l ≤ h ∧ h - l < 900 ∧ (-20000 ≤ l ∧ h ≤ 20000) ∧ LotEnd K (tlOf l (h + 1 - l).toNat (irow l (h + 1 - l).toNat) 1 [] []) H Q E
abbrev s_range : Stmt := top 28
abbrev N_range : List Str := ["low", "high"]
theorem sc_range : FnScope N_range ["low", "high"] (defScope s_range) := ⟨rfl, rfl, rfl, by decide +kernel, rfl, by decide +kernel, by decide +kernel⟩
theorem kp_range (F : At K mg "range_lot" s_range) (N : Nb mg) (Ge : Keeps CX0 P w K mg base "empty_lot" 3 [] (spLit K [] [])) (Gw : Keeps CX0 P w K mg base "whole_lot" 3 [] (spLit K [0] [0])) (Gl_ : Keeps (CX P w) P w K mg base "_lot_of" 3 ["low", "high", "inside", "modulus", "ups", "downs"] (spLotOf K)) :
    Keeps (CX P w) P w K mg base "range_lot" 4 ["low", "high"] (spRange K) := by
  refine keeps_ofX F sc_range (fun _ _ _ _ _ _ us hl => match us, hl with | [_, _], _ => rfl) (fun vs H Q E h => ?_) (fun f cdv A outer s H vs Q E hr h => ?_)
  · rcases h with ⟨rfl, _⟩ | ⟨h, rfl, _⟩ | ⟨l, rfl, _⟩ | ⟨l, h, rfl, _⟩ | ⟨l, h, rfl, _⟩ <;> rfl
  · have hx : Passes (CX P w) (cxOf (CX P w) P w K mg base N_range "range_lot" (defScope s_range) f cdv A outer s H E) E := passes_call (takes_of rfl rfl rfl rfl) (fun _ _ _ _ h => h)
    obtain ⟨x, y, rfl⟩ : ∃ x y, vs = [x, y] := by
      rcases h with ⟨rfl, _⟩ | ⟨h, rfl, _⟩ | ⟨l, rfl, _⟩ | ⟨l, h, rfl, _⟩ | ⟨l, h, rfl, _⟩ <;> exact ⟨_, _, rfl⟩
    refine ⟨_, (pss_cons (ps_if (PW.pt (pw_and (pt_cmpR op_isN (pv 0) pe_non (nomark _)) (pw_and1 (pt_cmpR op_isN (pv 1) pe_non (nomark _))))) (pss_one (ps_ret (pe_k0 Gw hr (by rfl) pass0))) pss_nil)
        (pss_cons (ps_if (pt_cmpR op_isN (pv 0) pe_non (nomark _)) (pss_one (ps_ret (pe_k Gl_ hr (by rfl) hx (pa_cons (pe_op op_add (pv 1) pe_int) (pa_cons (pv 1) (pa_cons (pe_tup pa_nil) (pa_cons pe_int (pa_cons (pe_tup pa_nil) (pa_cons (pe_tup (pa_cons pe_int pa_nil)) pa_nil))))))))) pss_nil)
        (pss_cons (ps_if (pt_cmpR op_isN (pv 1) pe_non (nomark _)) (pss_one (ps_ret (pe_k Gl_ hr (by rfl) hx (pa_cons (pv 0) (pa_cons (pe_op op_sub (pv 0) pe_int) (pa_cons (pe_tup pa_nil) (pa_cons pe_int (pa_cons (pe_tup (pa_cons pe_int pa_nil)) (pa_cons (pe_tup pa_nil) pa_nil))))))))) pss_nil)
        (pss_cons (ps_if (pt_cmpR op_gt (pv 0) (pv 1) (nomark _)) (pss_one (ps_ret (pe_k0 Ge hr (by rfl) pass0))) pss_nil)
        (pss_one (ps_ret (pe_k Gl_ hr (by rfl) hx (pa_cons (pv 0) (pa_cons (pv 1) (pa_cons (pe_listRg (by rfl) (by rfl) N.list (prg_2 (by rfl) N.range (pv 0) (pe_op op_add (pv 1) pe_int))) (pa_cons pe_int (pa_cons (pe_tup pa_nil) (pa_cons (pe_tup pa_nil) pa_nil))))))))))))), ?_⟩
    have tt : decide (V.non = V.non) = true := decide_eq_true rfl
    have ti : ∀ i : Int, decide (V.int i = V.non) = false := fun i => decide_eq_false (fun z => nomatch z)
    have z0 : (0 : Nat) ≤ sizeLine := Nat.zero_le _
    have z1 : (1 : Nat) ≤ sizeLine := by decide
    have nr : ∀ (lo : Int) (n : Nat) (xs us ds : List Int), n < 1000 → -30000 ≤ lo → lo ≤ 30000 → (tlOf lo n xs 1 us ds).Near := fun lo n xs us ds h1 h2 h3 => ⟨tlOf_ok (by decide), by rw [tlOf_m]; decide, by rw [tlOf_c]; omega, (by show -10 ^ 31 ≤ lo ∧ lo ≤ 10 ^ 31; omega)⟩
    rcases h with ⟨e, k⟩ | ⟨h, e, b, k⟩ | ⟨l, e, b, k⟩ | ⟨l, h, e, lh, k⟩ | ⟨l, h, e, lh, sz, b, k⟩
    · obtain ⟨rfl, rfl⟩ : x = .non ∧ y = .non := by
        cases e
        exact ⟨rfl, rfl⟩
      refine ⟨_, rfl, rfl, _, rfl, ?_⟩
      rw [tt]
      refine iteT ⟨_, rfl, rfl, _, rfl, ?_⟩
      rw [tt]
      exact iteT ⟨rfl, k⟩
    · obtain ⟨rfl, rfl⟩ : x = .non ∧ y = .int h := by
        cases e
        exact ⟨rfl, rfl⟩
      refine ⟨_, rfl, rfl, _, rfl, ?_⟩
      rw [tt]
      refine iteT ⟨_, rfl, rfl, _, rfl, ?_⟩
      rw [ti]
      refine iteF ⟨_, rfl, rfl, _, rfl, ?_⟩
      rw [tt]
      refine iteT ⟨_, rfl, _, _, rfl, rfl, _, rfl, z0, fun a ha => ⟨z0, fun u hu => ⟨z1, fun d hd => ?_⟩⟩⟩
      have au : a ≠ u := ne_of_none upd_same hu
      have ud : u ≠ d := ne_of_none upd_same hd
      have ad : a ≠ d := ne_of_none (by rw [upd_ne au]; exact upd_same) hd
      have s3 := same_new (o := .tup [.int 0]) (same_new (o := .tup []) (same_new (o := .tup []) (Same.refl H) ha) hu) hd
      refine ⟨tlOf (h + 1) 0 [] 1 [] [0], a, u, d, [], [], [0], ?_, nr _ _ _ _ _ (by omega) (by omega) (by omega), by rw [tlOf_c]; omega, half_told (fun _ z => nomatch z) (by decide), .inr (by rw [upd_ne ad, upd_ne au]; exact upd_same), .inr (by rw [upd_ne ud]; exact upd_same), .inr upd_same, k.same s3⟩
      rw [tlOf_hi, tlOf_m, show h + 1 + ((0 : Nat) : Int) - 1 = h by omega]
      rfl
    · obtain ⟨rfl, rfl⟩ : x = .int l ∧ y = .non := by
        cases e
        exact ⟨rfl, rfl⟩
      refine ⟨_, rfl, rfl, _, rfl, ?_⟩
      rw [ti]
      refine iteF ⟨_, rfl, rfl, _, rfl, ?_⟩
      rw [ti]
      refine iteF ⟨_, rfl, rfl, _, rfl, ?_⟩
      rw [tt]
      refine iteT ⟨_, rfl, _, rfl, _, _, rfl, rfl, z0, fun a ha => ⟨z1, fun u hu => ⟨z0, fun d hd => ?_⟩⟩⟩
      have au : a ≠ u := ne_of_none upd_same hu
      have ud : u ≠ d := ne_of_none upd_same hd
      have ad : a ≠ d := ne_of_none (by rw [upd_ne au]; exact upd_same) hd
      have s3 := same_new (o := .tup []) (same_new (o := .tup [.int 0]) (same_new (o := .tup []) (Same.refl H) ha) hu) hd
      refine ⟨tlOf l 0 [] 1 [0] [], a, u, d, [], [0], [], ?_, nr _ _ _ _ _ (by omega) (by omega) (by omega), by rw [tlOf_c]; omega, half_told (by decide) (fun _ z => nomatch z), .inr (by rw [upd_ne ad, upd_ne au]; exact upd_same), .inr (by rw [upd_ne ud]; exact upd_same), .inr upd_same, k.same s3⟩
      rw [tlOf_hi, tlOf_m, show l + ((0 : Nat) : Int) - 1 = l - 1 by omega]
      rfl
    · obtain ⟨rfl, rfl⟩ : x = .int l ∧ y = .int h := by
        cases e
        exact ⟨rfl, rfl⟩
      refine ⟨_, rfl, rfl, _, rfl, ?_⟩
      rw [ti]
      refine iteF ⟨_, rfl, rfl, _, rfl, ?_⟩
      rw [ti]
      refine iteF ⟨_, rfl, rfl, _, rfl, ?_⟩
      rw [ti]
      refine iteF ⟨_, rfl, _, rfl, _, _, rfl, rfl, _, rfl, ?_⟩
      rw [decide_eq_true (by omega : l > h)]
      exact iteT ⟨rfl, k⟩
    · obtain ⟨rfl, rfl⟩ : x = .int l ∧ y = .int h := by
        cases e
        exact ⟨rfl, rfl⟩
      refine ⟨_, rfl, rfl, _, rfl, ?_⟩
      rw [ti]
      refine iteF ⟨_, rfl, rfl, _, rfl, ?_⟩
      rw [ti]
      refine iteF ⟨_, rfl, rfl, _, rfl, ?_⟩
      rw [ti]
      refine iteF ⟨_, rfl, _, rfl, _, _, rfl, rfl, _, rfl, ?_⟩
      rw [decide_eq_false (by omega : ¬ l > h)]
      refine iteF ⟨_, rfl, _, rfl, _, rfl, _, rfl, _, _, rfl, rfl, _, _, rfl, rfl, ⟨by omega, by omega, by omega, by omega, by omega⟩, fun a ha => ⟨z0, fun u hu => ⟨z0, fun d hd => ?_⟩⟩⟩
      have au : a ≠ u := ne_of_none upd_same hu
      have ud : u ≠ d := ne_of_none upd_same hd
      have ad : a ≠ d := ne_of_none (by rw [upd_ne au]; exact upd_same) hd
      have s3 := same_new (o := .tup []) (same_new (o := .tup []) (same_new (o := .lst (rgV l (h + 1))) (Same.refl H) ha) hu) hd
      refine ⟨tlOf l (h + 1 - l).toNat (irow l (h + 1 - l).toNat) 1 [] [], a, u, d, irow l (h + 1 - l).toNat, [], [], ?_, nr _ _ _ _ _ (by omega) (by omega) (by omega), by rw [tlOf_c]; omega, num_told (fun x hx => by have := mem_irow.mp hx; omega), .inl (by rw [upd_ne ad, upd_ne au, ← rgV_irow]; exact upd_same), .inr (by rw [upd_ne ud]; exact upd_same), .inr upd_same, k.same s3⟩
      rw [tlOf_hi, tlOf_m, show l + ((h + 1 - l).toNat : Int) - 1 = h by omega]
      rfl
end
end My
set_option Elab.async false
set_option linter.all false
set_option maxRecDepth 100000
set_option maxHeartbeats 8000000
namespace My
open PySem PySem.Spec PyProof.Rows L2
local macro_rules | `(tactic| walk_at "lv") => `(tactic| first | exact Or.inl rfl | exact Or.inr rfl)
/-! ### rest_lot -/
theorem RgC_pos {a b c : Int} (h0 : 0 ≤ a) (hab : a < b) (hb : b ≤ 100) (hc : 0 < c) (hc1 : c ≤ 100) : RgC a b c ((b - a - 1) / c + 1).toNat := by
  have q0 : 0 ≤ (b - a - 1) / c := Int.ediv_nonneg (by omega) (by omega)
  have q1 : (b - a - 1) / c ≤ b - a - 1 := Int.ediv_le_self _ (by omega)
  have e : Builtin.Range.rangeSize a b c = (b - a - 1) / c + 1 := by
    unfold Builtin.Range.rangeSize; rw [if_pos (show c > 0 from hc), if_pos hab]
  refine ⟨by omega, by omega, ?_, by rw [e]; omega⟩
  unfold Builtin.Range.small
  rw [e]
  generalize (b - a - 1) / c = z at *
  simp only [Builtin.Range.rangeFitsLong, Bool.and_eq_true, Bool.or_eq_true, decide_eq_true_eq, beq_iff_eq, if_pos (show c > 0 from hc)]
  omega
def rowsD (ks : List Int) : List (Key × V) := ks.map fun k => ((Sum.inl k : Key), V.bl true)
theorem rows_len (ks : List Int) : (rowsD ks).length = ks.length := List.length_map _
theorem put_rows (ks : List Int) (k : Int) : putK (rowsD ks) (Sum.inl k : Key) (V.bl true) = rowsD (if k ∈ ks then ks else ks ++ [k]) := by
  unfold putK
  have e : ((rowsD ks).any fun kv => decide (kv.1 = (Sum.inl k : Key))) = decide (k ∈ ks) := by
    unfold rowsD
    rw [List.any_map]
    induction ks with
    | nil => rfl
    | cons x r ih =>
      rw [List.any_cons, ih]
      by_cases h : x = k
      · subst h; simp
      · simp [h, Ne.symm h]
  rw [e]
  by_cases h : k ∈ ks
  · rw [decide_eq_true h, if_pos rfl, if_pos h]
    unfold rowsD
    rw [List.map_map]
    refine List.map_congr_left fun y _ => ?_
    show (if (Sum.inl y : Key) = Sum.inl k then ((Sum.inl y : Key), V.bl true) else (Sum.inl y, V.bl true)) = _
    split <;> rfl
  · rw [decide_eq_false h, if_neg (by decide), if_neg h]
    unfold rowsD
    rw [List.map_append]
    rfl
theorem nodup_len : ∀ (n : Nat) (l : List Int), l.Nodup → (∀ x ∈ l, 0 ≤ x ∧ x < n) → l.length ≤ n
  | 0, l, _, h => by
    cases l with
    | nil => exact Nat.le_refl _
    | cons x r => have := h x List.mem_cons_self; omega
  | n + 1, l, nd, h => by
    by_cases hm : (n : Int) ∈ l
    · have := nodup_len n (l.erase n) (nd.erase _) fun x hx => by
        have h1 := h x (List.mem_of_mem_erase hx)
        have h2 : x ≠ n := fun z => by
          subst z
          exact (nd.not_mem_erase) hx
        omega
      have e := List.length_erase_of_mem hm
      have p := List.length_pos_of_mem hm
      omega
    · have := nodup_len n l nd fun x hx => by
        have h1 := h x hx
        have h2 : x ≠ n := fun z => hm (z ▸ hx)
        omega
      omega
/-- the dict at D holds exactly these numbers below n -/
def Gath (H : Hp) (D : Addr) (n : Nat) (S : Int → Prop) : Prop := ∃ ks : List Int, H D = some (.dK (rowsD ks)) ∧ ks.Nodup ∧ (∀ x ∈ ks, 0 ≤ x ∧ x < n) ∧ ∀ x, x ∈ ks ↔ S x
theorem Gath.iff {H : Hp} {D : Addr} {n : Nat} {S S' : Int → Prop} (h : Gath H D n S) (e : ∀ x, S x ↔ S' x) : Gath H D n S' := by
  obtain ⟨ks, h1, h2, h3, h4⟩ := h
  exact ⟨ks, h1, h2, h3, fun x => (h4 x).trans (e x)⟩
theorem Gath.put {H : Hp} {D : Addr} {n : Nat} {S : Int → Prop} {ks : List Int} {k : Int} (h2 : ks.Nodup) (h3 : ∀ x ∈ ks, 0 ≤ x ∧ x < n) (h4 : ∀ x, x ∈ ks ↔ S x) (k0 : 0 ≤ k) (k1 : k < n) :
    Gath (upd H D (.dK (putK (rowsD ks) (Sum.inl k : Key) (V.bl true)))) D n fun x => S x ∨ x = k := by
  rw [put_rows]
  by_cases h : k ∈ ks
  · rw [if_pos h]
    exact ⟨ks, upd_same, h2, h3, fun x => ⟨fun z => .inl ((h4 x).mp z), fun z => z.elim (h4 x).mpr fun z => z ▸ h⟩⟩
  · rw [if_neg h]
    refine ⟨_, upd_same, ?_, ?_, fun x => ?_⟩
    · refine List.nodup_append.mpr ⟨h2, by simp, fun a ha b hb => ?_⟩
      rw [List.mem_singleton.mp hb]
      exact fun z => h (z ▸ ha)
    · intro x hx
      rcases List.mem_append.mp hx with z | z
      · exact h3 x z
      · exact List.mem_singleton.mp z ▸ ⟨k0, k1⟩
    · rw [List.mem_append, List.mem_singleton, h4]
theorem small2000 {n : Nat} (h : n ≤ 2000) : n < sizeLine := by
  rw [sizeLine_eq]
  omega
theorem catA_of {K : PySem.W.Frag} {a b : Addr} {xs ys : List V} {H : Hp} {Q : VK} (ha : H a = some (.tup xs)) (hb : H b = some (.tup ys)) (hl : xs.length + ys.length ≤ sizeLine)
    (h : ∀ e H3, Same H H3 → H3 e = some (.tup (xs ++ ys)) → (e = a ∨ e = b ∨ H e = none) → Q (.ref e) H3) : rCatA K (.ref a) (.ref b) H Q := by
  refine ⟨a, b, xs, ys, rfl, rfl, SqT.of ha, SqT.of hb, hl, fun z => ?_, fun _ z => ?_, fun _ _ p hp => ?_⟩
  · exact h b H (Same.refl H) (by rw [z]; exact hb) (.inr (.inl rfl))
  · exact h a H (Same.refl H) (by rw [z, List.append_nil]; exact ha) (.inl rfl)
  · exact h p _ (same_new (Same.refl H) hp) upd_same (.inr (.inr hp))
theorem prog_iff {g r n x : Int} (hg : 0 < g) (r0 : 0 ≤ r) (r1 : r < g) (gn : g ≤ n) : (∃ k : Nat, k < ((n - r - 1) / g + 1).toNat ∧ x = r + (k : Int) * g) ↔ (0 ≤ x ∧ x < n) ∧ x % g = r := by
  have q0 : 0 ≤ (n - r - 1) / g := Int.ediv_nonneg (by omega) (by omega)
  constructor
  · rintro ⟨k, hk, rfl⟩
    have h1 : (k : Int) ≤ (n - r - 1) / g := by omega
    have h2 : (k : Int) * g ≤ n - r - 1 := (Int.le_ediv_iff_mul_le hg).mp h1
    have h3 : 0 ≤ (k : Int) * g := Int.mul_nonneg (by omega) (by omega)
    refine ⟨⟨by omega, by omega⟩, ?_⟩
    rw [Int.add_mul_emod_self_right, Int.emod_eq_of_lt r0 r1]
  · rintro ⟨⟨x0, x1⟩, e⟩
    have d := Int.emod_add_mul_ediv x g
    have d0 : 0 ≤ x / g := Int.ediv_nonneg x0 (by omega)
    have h1 : x / g ≤ (n - r - 1) / g := (Int.le_ediv_iff_mul_le hg).mpr (by rw [Int.mul_comm]; omega)
    refine ⟨(x / g).toNat, by omega, ?_⟩
    rw [Int.toNat_of_nonneg d0, Int.mul_comm]
    omega
section
variable {P : Program} {w : World} {K : PySem.W.Frag} {mg : Str → Option Value} {base : Heap}
theorem LotEnd.congF {T T' : Tl} {H : Hp} {Q : VK} {E : XK} (e1 : T.has = T'.has) (e2 : T.U = T'.U) (e3 : T.D = T'.D) (h : LotEnd K T H Q E) : LotEnd K T' H Q E := by
  unfold LotEnd insOf resOf at *
  rw [← e1, ← e2, ← e3]
  exact h
def spRest (K : PySem.W.Frag) : Sp := fun vs H Q E => ∃ (p : Addr) (n : Nat) (lo hi : Int) (m : Nat) (xs us ds : List Int) (T : Tl), vs = [.ref p, .int n] ∧ LotAt (He.ga K "Lot") H p lo hi xs m us ds ∧ LotS lo hi xs m us ds ∧ (0 < n ∧ n ≤ 60) ∧
  (∀ x, T.has x = true ↔ (0 ≤ x ∧ x < n) ∧ RestS xs m us ds n x) ∧ (∀ x, T.U x = false) ∧ (∀ x, T.D x = false) ∧ T.us.length = 1 ∧ T.ds.length = 1 ∧ LotEnd K T H Q E
abbrev s_rest : Stmt := top 33
abbrev N_rest : List Str := ["lot", "many", "step", "rests", "number", "rest", "place"]
theorem sc_rest : FnScope N_rest ["lot", "many"] (defScope s_rest) := ⟨rfl, rfl, rfl, by decide +kernel, rfl, by decide +kernel, by decide +kernel⟩
theorem kp_rest (F : At K mg "rest_lot" s_rest) (T_ : LotTxt K mg (He.ga K "Lot")) (N : Nb mg) (nS : mg "sorted" = none) (gG : mg "gcd" = some (.builtin "math.gcd")) (Gj : Keeps (CX P w) P w K mg base "just_lot" 4 ["numbers"] (spJust K)) :
    Keeps (CX P w) P w K mg base "rest_lot" 5 ["lot", "many"] (spRest K) := by
  refine keeps_ofX F sc_rest (fun _ _ _ _ _ _ us hl => match us, hl with | [_, _], _ => rfl) (fun vs H Q E h => ?_) (fun f cdv A outer s H vs Q E hr h => ?_)
  · obtain ⟨p, n, lo, hi, m, xs, us, ds, T, rfl, _⟩ := h
    rfl
  · obtain ⟨p, n, lo, hi, m, xs, us, ds, T, rfl, ⟨dx, a1, a2, a3, hp, h1, h2, h3⟩, L, ⟨n0, n60⟩, hT, hU, hD, tu, td, k⟩ := h
    have hu := hu_of hr
    have mp := L.pos
    refine ⟨_, (pss_cons (ps_set (i := 2) sc_rest.nd rfl (by walk_at "lv") (pe_callBfun cr_gcd (by rfl) gG (pa_cons (pe_fld (pv 0) rfl) (pa_cons (pv 1) pa_nil))))
        (pss_cons (ps_setDc (i := 3) (own := [("number", 4)]) (g := gName 4) (tt := tYes) (tk := tOp (rI (fun _ j => 0 < j) fun i j => .int (i % j)) (tVar 4) (tVar 1)) (tv := tC (.bl true)) rfl sc_rest.nd rfl rfl (sw_dict rfl rfl rfl (by decide +kernel)) (pi_tup (pe_fld (pv 0) rfl)) (blkOk_by (N := N_rest) (sc := defScope s_rest) (by decide +kernel)) (fun _ _ _ _ _ => (pg_name (i := 4) sc_rest.nd rfl (by walk_at "lv"))) (fun _ _ _ _ _ => pts_nil) (fun _ _ _ _ _ => (pe_op op_mod (pv 4) (pv 1))) (fun _ _ _ _ _ => pe_bl))
        (pss_cons (ps_for (passes_of rfl) rfl (pi_tup (pe_op op_catA (pe_fld (pv 0) rfl) (pe_fld (pv 0) rfl))) (pg_name (i := 5) sc_rest.nd rfl (by walk_at "lv")) (pss_one (ps_for (passes_of rfl) rfl (pi_range3 (by rfl) N.range (pa_cons (pe_op op_mod (pv 5) (pv 2)) (pa_cons (pv 1) (pa_cons (pv 2) pa_nil)))) (pg_name (i := 6) sc_rest.nd rfl (by walk_at "lv")) (pss_one (ps_dput hu (pv 3) (pv 6) pe_bl rfl)))))
        (pss_one (ps_ret (pe_k Gj hr (by rfl) (passes_call (takes_of rfl rfl rfl rfl) (fun _ _ _ _ h => h)) (pa_cons (pe_callB (call_sortedDI (by rfl)) (by rfl) nS (by decide +kernel) (pa_cons (pv 3) pa_nil)) pa_nil))))))), ?_⟩
    have gp : 0 < Nat.gcd m n := Nat.gcd_pos_of_pos_left _ mp
    have gn : Nat.gcd m n ≤ n := Nat.gcd_le_right _ n0
    have eg : ((Nat.gcd ((m : Int)).natAbs ((n : Int)).natAbs : Nat) : Int) = ((Nat.gcd m n : Nat) : Int) := by rw [Int.natAbs_natCast, Int.natAbs_natCast]
    refine ⟨_, rfl, p, _, dx, _, _, rfl, hp, T_.cl, T_.n4, lf_modulus, _, rfl, _, _, rfl, ?_⟩
    rw [eg]
    refine ⟨_, rfl, p, _, dx, _, _, rfl, hp, T_.cl, T_.n3, lf_inside, a1, rfl, ⟨_, SqT.of h1⟩, fun D hD' => ?_⟩
    refine dc_tup (xs := xs.map V.int) (fun i H2 => Same H H2 ∧ Gath H2 D n fun x => ∃ y ∈ xs.take i, y % (n : Int) = x) ⟨same_new (Same.refl H) hD', [], upd_same, List.nodup_nil, (fun x z => nomatch z), fun x => ⟨(fun z => nomatch z), fun ⟨y, hy, _⟩ => by simp at hy⟩⟩ (fun i H2 _ h => SqT.of (h.1 _ _ h1)) ?_ ?_
    · rintro i x H2 hx ⟨s2, ks, k1, k2, k3, k4⟩
      obtain ⟨y, hy, rfl⟩ := int_at hx
      have y0 := Int.emod_nonneg y (by omega : (n : Int) ≠ 0)
      have y1 := Int.emod_lt_of_pos y (by omega : (0 : Int) < (n : Int))
      have kl := nodup_len n ks k2 k3
      refine ⟨rfl, _, rfl, _, rfl, _, _, rfl, rfl, (by omega : (0 : Int) < (n : Int)), rowsD ks, Sum.inl (y % (n : Int)), rfl, k1, small1000 (by rw [rows_len]; omega), ?_, ?_⟩
      · intro b o e
        rw [upd_ne (ne_of_none e hD')]
        exact s2 b o e
      · refine (Gath.put k2 k3 k4 y0 y1).iff fun x => ?_
        rw [List.take_succ, hy]
        constructor
        · rintro (⟨z, hz, e⟩ | e)
          · exact ⟨z, List.mem_append_left _ hz, e⟩
          · exact ⟨y, List.mem_append_right _ (List.mem_singleton.mpr rfl), e.symm⟩
        · rintro ⟨z, hz, e⟩
          rcases List.mem_append.mp hz with q | q
          · exact .inl ⟨z, q, e⟩
          · rw [List.mem_singleton.mp q] at e
            exact .inr e.symm
    rintro H4 ⟨s4, ga4⟩
    rw [show (xs.map V.int).length = xs.length from List.length_map _, List.take_length] at ga4
    have eD4 : ∃ kv, H4 D = some (.dK kv) := ga4.elim fun ks z => ⟨_, z.1⟩
    obtain ⟨kv4, eD4⟩ := eD4
    refine ⟨_, rfl, p, _, dx, _, _, rfl, s4 _ _ hp, T_.cl, T_.n5, lf_ups, _, rfl, p, _, dx, _, _, rfl, s4 _ _ hp, T_.cl, T_.n6, lf_downs, ?_⟩
    have lu := L.lu
    have ld := L.ld
    refine catA_of (s4 _ _ h2) (s4 _ _ h3) (Nat.le_of_lt (small2000 (by rw [List.length_map, List.length_map]; omega))) fun e H5 s5 he wh => ?_
    have eD : e ≠ D := by
      rcases wh with z | z | z
      · exact z ▸ ne_of (s4 _ _ h2) eD4 (by intro q; cases q)
      · exact z ▸ ne_of (s4 _ _ h3) eD4 (by intro q; cases q)
      · exact (ne_of_none eD4 z).symm
    rw [← List.map_append] at he
    have ga5 : Gath H5 D n fun x => ∃ y ∈ xs, y % (n : Int) = x := by
      obtain ⟨ks, k1, k2⟩ := ga4
      exact ⟨ks, s5 _ _ k1, k2⟩
    have s05 := s4.trans s5
    refine ⟨e, rfl, ⟨_, SqT.of he⟩, for_it (walk_tup (K := K) (a := e) (xs := (us ++ ds).map V.int)) (fun i σ H2 => ∃ y5 y6 : Option V, σ = [some (.ref p), some (.int n), some (.int ((Nat.gcd m n : Nat) : Int)), some (.ref D), none, y5, y6] ∧ Same H H2 ∧ H2 e = some (.tup ((us ++ ds).map V.int)) ∧
      Gath H2 D n fun x => (∃ y ∈ xs, y % (n : Int) = x) ∨ ∃ u ∈ (us ++ ds).take i, (0 ≤ x ∧ x < (n : Int)) ∧ x % ((Nat.gcd m n : Nat) : Int) = u % ((Nat.gcd m n : Nat) : Int)) ?_ (fun i σ H2 _ ⟨_, _, _, _, e2, _⟩ => SqT.of e2) ?_ ?_⟩
    · exact ⟨_, _, rfl, s05, he, ga5.iff fun x => ⟨.inl, fun z => z.elim id fun ⟨u, hu', _⟩ => by simp at hu'⟩⟩
    · rintro i v σ H2 H3 hi' ⟨y5, y6, rfl, s2, e2, ga⟩ ⟨rfl, e4⟩
      obtain ⟨u, hu', rfl⟩ := int_at e4
      generalize hgi : ((Nat.gcd m n : Nat) : Int) = gi at *
      have g0 : 0 < gi := by omega
      have g1 : gi ≤ n := by omega
      have r0 := Int.emod_nonneg u (by omega : gi ≠ 0)
      have r1 := Int.emod_lt_of_pos u g0
      refine ⟨_, rfl, _, rfl, _, _, rfl, rfl, g0, _, rfl, _, rfl, _, _, _, _, rfl, RgC_pos r0 (by omega) (by omega) g0 (by omega), ?_⟩
      refine for_rangeC (lo := u % gi) (c := gi) (n := (((n : Int) - u % gi - 1) / gi + 1).toNat) (fun j σ H4 => ∃ y6 : Option V, σ = [some (.ref p), some (.int n), some (.int gi), some (.ref D), none, some (.int u), y6] ∧ Same H H4 ∧ H4 e = some (.tup ((us ++ ds).map V.int)) ∧
        Gath H4 D n fun x => ((∃ y ∈ xs, y % (n : Int) = x) ∨ ∃ u ∈ (us ++ ds).take i, (0 ≤ x ∧ x < (n : Int)) ∧ x % gi = u % gi) ∨ ∃ k : Nat, k < j ∧ x = u % gi + (k : Int) * gi) ?_ ?_ ?_
      · exact ⟨_, rfl, s2, e2, ga.iff fun x => ⟨.inl, fun z => z.elim id fun ⟨k, hk, _⟩ => by omega⟩⟩
      · rintro j σ H4 hj ⟨y, rfl, s3, e3, ks, k1, k2, k3, k4⟩
        have inn := ((prog_iff (x := u % gi + (j : Int) * gi) g0 r0 r1 g1).mp ⟨j, hj, rfl⟩).1
        have kl := nodup_len n ks k2 k3
        refine ⟨_, rfl, _, rfl, D, _, rfl, DPut.k (k := Sum.inl (u % gi + (j : Int) * gi)) k1 (small1000 (by rw [rows_len]; omega)), ?_⟩
        refine ⟨_, rfl, ?_, by rw [upd_ne eD]; exact e3, ?_⟩
        · intro b o z
          rw [upd_ne (ne_of_none z hD')]
          exact s3 b o z
        · refine (Gath.put k2 k3 k4 inn.1 inn.2).iff fun x => ?_
          constructor
          · rintro ((z | ⟨k, hk, z⟩) | z)
            · exact .inl z
            · exact .inr ⟨k, by omega, z⟩
            · exact .inr ⟨j, by omega, z⟩
          · rintro (z | ⟨k, hk, z⟩)
            · exact .inl (.inl z)
            · by_cases q : k = j
              · subst q; exact .inr z
              · exact .inl (.inr ⟨k, by omega, z⟩)
      · rintro σ H4 ⟨y, rfl, s3, e3, ga4⟩
        refine ⟨_, _, rfl, s3, e3, ga4.iff fun x => ?_⟩
        rw [prog_iff g0 r0 r1 g1, List.take_succ, hu']
        constructor
        · rintro ((z | ⟨w, hw, z⟩) | z)
          · exact .inl z
          · exact .inr ⟨w, List.mem_append_left _ hw, z⟩
          · exact .inr ⟨u, List.mem_append_right _ (List.mem_singleton.mpr rfl), z⟩
        · rintro (z | ⟨w, hw, z⟩)
          · exact .inl (.inl z)
          · rcases List.mem_append.mp hw with q | q
            · exact .inl (.inr ⟨w, q, z⟩)
            · rw [List.mem_singleton.mp q] at z
              exact .inr z
    · rintro σ H6 ⟨y5, y6, rfl, s6, e6, ks, k1, k2, k3, k4⟩
      rw [List.length_map, List.take_length] at k4
      have kl := nodup_len n ks k2 k3
      refine ⟨_, rfl, D, rowsD ks, ks, rfl, Rd.of k1, ?_, by omega, fun ys q perm _ hq => ?_⟩
      · unfold rowsD
        rw [List.map_map]
        rfl
      have mem : ∀ x, x ∈ ys ↔ T.has x = true := fun x => by
        rw [perm.mem_iff, k4, hT]
        constructor
        · rintro (⟨y, hy, z⟩ | ⟨w, hw, z, z2⟩)
          · have y0 := Int.emod_nonneg y (by omega : (n : Int) ≠ 0)
            have y1 := Int.emod_lt_of_pos y (by omega : (0 : Int) < (n : Int))
            exact ⟨⟨by omega, by omega⟩, .inl ⟨y, hy, z⟩⟩
          · exact ⟨z, .inr ⟨w, hw, z2⟩⟩
        · rintro ⟨z, ⟨y, hy, z2⟩ | ⟨w, hw, z2⟩⟩
          · exact .inl ⟨y, hy, z2⟩
          · exact .inr ⟨w, hw, z, z2⟩
      have bd : ∀ x ∈ ys, 0 ≤ x ∧ x < n := fun x hx => k3 x (perm.mem_iff.mp hx)
      have s7 : Same H (upd H6 q (.lst (ys.map V.int))) := same_new s6 hq
      have fU : T.U = fun _ => false := funext hU
      have fD : T.D = fun _ => false := funext hD
      have mono : LotEnd K T (upd H6 q (.lst (ys.map V.int))) Q E := k.same s7
      refine ⟨q, ys, rfl, upd_same, fun x hx => by have := bd x hx; omega, fun x hx y hy => by have := bd x hx; have := bd y hy; omega, fun z p' H8 s8 l => ?_, fun l h hl ll hh lh => ?_⟩
      · have no : ∀ x, T.has x = T.U x := fun x => by
          rw [hU]
          cases e : T.has x with
          | false => rfl
          | true => rw [← mem, z] at e; cases e
        have ok : T.Ok := ⟨by rw [tu, td], by rw [tu]; decide⟩
        have lst : Least T.U T.D 1 := by
          rw [fU, fD]
          exact ⟨by decide, fun _ => rfl, fun _ => rfl, fun e he _ _ => he⟩
        refine mono.1 p' 0 (-1) 1 H8 (form_none ok lst no) (by decide) (by decide) s8 ?_
        rw [show resOf T.U 1 = [] by rw [fU]; rfl, show resOf T.D 1 = [] by rw [fD]; rfl]
        exact l
      · refine LotEnd.congF ?_ ?_ ?_ mono
        · funext x
          rw [tlOf_has (by decide)]
          unfold lotHas
          have hlh := ll h hh
          have b : ∀ x, T.has x = decide (x ∈ ys) := fun x => by
            cases e : T.has x with
            | true => exact (decide_eq_true ((mem x).mpr e)).symm
            | false => exact (decide_eq_false fun z => by rw [mem, e] at z; cases z).symm
          rw [b]
          by_cases c1 : l + ((h + 1 - l).toNat : Int) - 1 < x
          · rw [if_pos c1, decide_eq_false fun z => by have := lh x z; omega]
            rfl
          · rw [if_neg c1]
            by_cases c2 : x < l
            · rw [if_pos c2, decide_eq_false fun z => by have := ll x z; omega]
              rfl
            · rw [if_neg c2]
        · funext x
          rw [tlOf_U (by decide), hU]
          rfl
        · funext x
          rw [tlOf_D (by decide), hD]
          rfl
end
end My
set_option Elab.async false
set_option linter.all false
set_option maxRecDepth 100000
set_option maxHeartbeats 8000000
namespace My
open PySem PySem.Spec PyProof.Rows L2
local macro_rules | `(tactic| walk_at "lv") => `(tactic| first | exact Or.inl rfl | exact Or.inr rfl)
/-! ### letters and tests as data -/
inductive Lt where
  | set (v : Int)
  | add (v : Int)
  | turn
  | mod (m : Nat)
inductive Ts where
  | below (v : Int)
  | is (v : Int)
  | rest (m : Nat) (r : Int)
def Lt.vs : Lt → List V
  | .set v => [.str "set", .int v]
  | .add v => [.str "add", .int v]
  | .turn => [.str "turn"]
  | .mod m => [.str "mod", .int m]
def Ts.vs : Ts → List V
  | .below v => [.str "below", .int v]
  | .is v => [.str "is", .int v]
  | .rest m r => [.str "rest", .int m, .int r]
def Lt.deed : Lt → Int → Int
  | .set v, _ => v
  | .add v, n => n + v
  | .turn, n => -n
  | .mod m, n => n % (m : Int)
def Ts.pass : Ts → Int → Bool
  | .below v, n => decide (n < v)
  | .is v, n => decide (n = v)
  | .rest m r, n => decide (n % (m : Int) = r)
def Lt.Ok : Lt → Prop
  | .set v => -20 ≤ v ∧ v ≤ 20
  | .add v => -20 ≤ v ∧ v ≤ 20
  | .turn => True
  | .mod m => 1 ≤ m ∧ m ≤ 6
def Ts.Ok : Ts → Prop
  | .below v => -20 ≤ v ∧ v ≤ 20
  | .is v => -20 ≤ v ∧ v ≤ 20
  | .rest m r => (1 ≤ m ∧ m ≤ 6) ∧ 0 ≤ r ∧ r < m
theorem iteS {x : Str} {p q : Prop} (h : p) : if decide (V.str x = V.str x) = true then p else q := by
  rw [if_pos (decide_eq_true rfl)]
  exact h
theorem iteN {x y : Str} {p q : Prop} (hne : x ≠ y) (h : q) : if decide (V.str x = V.str y) = true then p else q := by
  rw [if_neg (by rw [decide_eq_false fun z => hne (V.str.inj z)]; exact Bool.false_ne_true)]
  exact h
theorem vint {a b : Int} : decide (V.int a = V.int b) = decide (a = b) := dec_cong ⟨fun h => V.int.inj h, fun h => by rw [h]⟩
section
variable {P : Program} {w : World} {K : PySem.W.Frag} {mg : Str → Option Value} {base : Heap}
/-! ### do_letter -/
def spDeed : Sp := fun vs H Q _ => ∃ (a : Addr) (L : Lt) (n : Int), vs = [.ref a, .int n] ∧ H a = some (.tup L.vs) ∧ L.Ok ∧ Q (.int (L.deed n)) H
abbrev s_do : Stmt := top 43
abbrev N_do : List Str := ["letter", "number"]
theorem sc_do : FnScope N_do ["letter", "number"] (defScope s_do) := ⟨rfl, rfl, rfl, by decide +kernel, rfl, by decide +kernel, by decide +kernel⟩
theorem kp_do (F : At K mg "do_letter" s_do) : Keeps CX0 P w K mg base "do_letter" 1 ["letter", "number"] spDeed := by
  refine keeps_of F sc_do (fun _ _ _ _ _ _ us hl => match us, hl with | [_, _], _ => rfl) (fun vs H Q E h => ?_) (fun f cdv A outer s H vs Q E hr h => ?_)
  · obtain ⟨a, L, n, rfl, _⟩ := h
    rfl
  · obtain ⟨a, L, n, rfl, ha, ok, k⟩ := h
    refine ⟨_, (pss_cons (ps_if (pt_cmpR op_eq (pe_ix ix_tup (pv 0) pe_int (fun _ _ => rfl)) pe_str (nomark _)) (pss_one (ps_ret (pe_ix ix_tup (pv 0) pe_int (fun _ _ => rfl)))) pss_nil)
        (pss_cons (ps_if (pt_cmpR op_eq (pe_ix ix_tup (pv 0) pe_int (fun _ _ => rfl)) pe_str (nomark _)) (pss_one (ps_ret (pe_op op_add (pv 1) (pe_ix ix_tup (pv 0) pe_int (fun _ _ => rfl))))) pss_nil)
        (pss_cons (ps_if (pt_cmpR op_eq (pe_ix ix_tup (pv 0) pe_int (fun _ _ => rfl)) pe_str (nomark _)) (pss_one (ps_ret (pe_un un_neg (pv 1)))) pss_nil)
        (pss_one (ps_ret (pe_op op_mod (pv 1) (pe_ix ix_tup (pv 0) pe_int (fun _ _ => rfl)))))))), ?_⟩
    cases L with
    | set v =>
      refine ⟨_, rfl, a, _, _, _, rfl, rfl, SqT.of ha, rfl, rfl, _, rfl, iteS ?_⟩
      exact ⟨_, rfl, a, _, _, _, rfl, rfl, SqT.of ha, rfl, k⟩
    | add v =>
      refine ⟨_, rfl, a, _, _, _, rfl, rfl, SqT.of ha, rfl, rfl, _, rfl, iteN (by decide) ?_⟩
      refine ⟨_, rfl, a, _, _, _, rfl, rfl, SqT.of ha, rfl, rfl, _, rfl, iteS ?_⟩
      exact ⟨_, rfl, _, rfl, a, _, _, _, rfl, rfl, SqT.of ha, rfl, _, _, rfl, rfl, k⟩
    | turn =>
      refine ⟨_, rfl, a, _, _, _, rfl, rfl, SqT.of ha, rfl, rfl, _, rfl, iteN (by decide) ?_⟩
      refine ⟨_, rfl, a, _, _, _, rfl, rfl, SqT.of ha, rfl, rfl, _, rfl, iteN (by decide) ?_⟩
      refine ⟨_, rfl, a, _, _, _, rfl, rfl, SqT.of ha, rfl, rfl, _, rfl, iteS ?_⟩
      exact ⟨_, rfl, _, rfl, k⟩
    | mod m =>
      have hm : (0 : Int) < (m : Int) := by have := ok.1; omega
      refine ⟨_, rfl, a, _, _, _, rfl, rfl, SqT.of ha, rfl, rfl, _, rfl, iteN (by decide) ?_⟩
      refine ⟨_, rfl, a, _, _, _, rfl, rfl, SqT.of ha, rfl, rfl, _, rfl, iteN (by decide) ?_⟩
      refine ⟨_, rfl, a, _, _, _, rfl, rfl, SqT.of ha, rfl, rfl, _, rfl, iteN (by decide) ?_⟩
      exact ⟨_, rfl, _, rfl, a, _, _, _, rfl, rfl, SqT.of ha, rfl, _, _, rfl, rfl, hm, k⟩
/-! ### passes -/
def spPass : Sp := fun vs H Q _ => ∃ (a : Addr) (T : Ts) (n : Int), vs = [.ref a, .int n] ∧ H a = some (.tup T.vs) ∧ T.Ok ∧ Q (.bl (T.pass n)) H
abbrev s_pass : Stmt := top 44
abbrev N_pass : List Str := ["test", "number"]
theorem sc_pass : FnScope N_pass ["test", "number"] (defScope s_pass) := ⟨rfl, rfl, rfl, by decide +kernel, rfl, by decide +kernel, by decide +kernel⟩
theorem kp_pass (F : At K mg "passes" s_pass) : Keeps CX0 P w K mg base "passes" 1 ["test", "number"] spPass := by
  refine keeps_of F sc_pass (fun _ _ _ _ _ _ us hl => match us, hl with | [_, _], _ => rfl) (fun vs H Q E h => ?_) (fun f cdv A outer s H vs Q E hr h => ?_)
  · obtain ⟨a, T, n, rfl, _⟩ := h
    rfl
  · obtain ⟨a, T, n, rfl, ha, ok, k⟩ := h
    refine ⟨_, (pss_cons (ps_if (pt_cmpR op_eq (pe_ix ix_tup (pv 0) pe_int (fun _ _ => rfl)) pe_str (nomark _)) (pss_one (ps_ret (pe_cmpR op_lt (pv 1) (pe_ix ix_tup (pv 0) pe_int (fun _ _ => rfl)) (nomark _)))) pss_nil)
        (pss_cons (ps_if (pt_cmpR op_eq (pe_ix ix_tup (pv 0) pe_int (fun _ _ => rfl)) pe_str (nomark _)) (pss_one (ps_ret (pe_cmpR op_eq (pv 1) (pe_ix ix_tup (pv 0) pe_int (fun _ _ => rfl)) (nomark _)))) pss_nil)
        (pss_one (ps_ret (pe_cmpR op_eq (pe_op op_mod (pv 1) (pe_ix ix_tup (pv 0) pe_int (fun _ _ => rfl))) (pe_ix ix_tup (pv 0) pe_int (fun _ _ => rfl)) (nomark _)))))), ?_⟩
    cases T with
    | below v =>
      refine ⟨_, rfl, a, _, _, _, rfl, rfl, SqT.of ha, rfl, rfl, _, rfl, iteS ?_⟩
      exact ⟨_, rfl, _, rfl, a, _, _, _, rfl, rfl, SqT.of ha, rfl, _, _, rfl, rfl, k⟩
    | is v =>
      refine ⟨_, rfl, a, _, _, _, rfl, rfl, SqT.of ha, rfl, rfl, _, rfl, iteN (by decide) ?_⟩
      refine ⟨_, rfl, a, _, _, _, rfl, rfl, SqT.of ha, rfl, rfl, _, rfl, iteS ?_⟩
      refine ⟨_, rfl, _, rfl, a, _, _, _, rfl, rfl, SqT.of ha, rfl, rfl, ?_⟩
      rw [vint]
      exact k
    | rest m r =>
      have hm : (0 : Int) < (m : Int) := by have := ok.1; omega
      refine ⟨_, rfl, a, _, _, _, rfl, rfl, SqT.of ha, rfl, rfl, _, rfl, iteN (by decide) ?_⟩
      refine ⟨_, rfl, a, _, _, _, rfl, rfl, SqT.of ha, rfl, rfl, _, rfl, iteN (by decide) ?_⟩
      refine ⟨_, rfl, _, rfl, a, _, _, _, rfl, rfl, SqT.of ha, rfl, _, _, rfl, rfl, hm, _, rfl, a, _, _, _, rfl, rfl, SqT.of ha, rfl, rfl, ?_⟩
      rw [vint]
      exact k
/-! ### _law_deed -/
abbrev s_deed : Stmt := top 58
abbrev N_deed : List Str := ["_law_letter_here", "_law_number"]
theorem sc_deed : FnScope N_deed ["_law_letter_here", "_law_number"] (defScope s_deed) := ⟨rfl, rfl, rfl, by decide +kernel, rfl, by decide +kernel, by decide +kernel⟩
theorem kp_deed (F : At K mg "_law_deed" s_deed) : Keeps CX0 P w K mg base "_law_deed" 1 ["_law_letter_here", "_law_number"] spDeed := by
  refine keeps_of F sc_deed (fun _ _ _ _ _ _ us hl => match us, hl with | [_, _], _ => rfl) (fun vs H Q E h => ?_) (fun f cdv A outer s H vs Q E hr h => ?_)
  · obtain ⟨a, L, n, rfl, _⟩ := h
    rfl
  · obtain ⟨a, L, n, rfl, ha, ok, k⟩ := h
    refine ⟨_, (pss_cons (ps_if (pt_cmpR op_eq (pe_ix ix_tup (pv 0) pe_int (fun _ _ => rfl)) pe_str (nomark _)) (pss_one (ps_ret (pe_ix ix_tup (pv 0) pe_int (fun _ _ => rfl)))) pss_nil)
        (pss_cons (ps_if (pt_cmpR op_eq (pe_ix ix_tup (pv 0) pe_int (fun _ _ => rfl)) pe_str (nomark _)) (pss_one (ps_ret (pe_op op_add (pv 1) (pe_ix ix_tup (pv 0) pe_int (fun _ _ => rfl))))) pss_nil)
        (pss_cons (ps_if (pt_cmpR op_eq (pe_ix ix_tup (pv 0) pe_int (fun _ _ => rfl)) pe_str (nomark _)) (pss_one (ps_ret (pe_op op_sub pe_int (pv 1)))) pss_nil)
        (pss_one (ps_ret (pe_op op_sub (pv 1) (pe_op op_mul (pe_ix ix_tup (pv 0) pe_int (fun _ _ => rfl)) (pe_op op_fdiv (pv 1) (pe_ix ix_tup (pv 0) pe_int (fun _ _ => rfl)))))))))), ?_⟩
    cases L with
    | set v =>
      refine ⟨_, rfl, a, _, _, _, rfl, rfl, SqT.of ha, rfl, rfl, _, rfl, iteS ?_⟩
      exact ⟨_, rfl, a, _, _, _, rfl, rfl, SqT.of ha, rfl, k⟩
    | add v =>
      refine ⟨_, rfl, a, _, _, _, rfl, rfl, SqT.of ha, rfl, rfl, _, rfl, iteN (by decide) ?_⟩
      refine ⟨_, rfl, a, _, _, _, rfl, rfl, SqT.of ha, rfl, rfl, _, rfl, iteS ?_⟩
      exact ⟨_, rfl, _, rfl, a, _, _, _, rfl, rfl, SqT.of ha, rfl, _, _, rfl, rfl, k⟩
    | turn =>
      refine ⟨_, rfl, a, _, _, _, rfl, rfl, SqT.of ha, rfl, rfl, _, rfl, iteN (by decide) ?_⟩
      refine ⟨_, rfl, a, _, _, _, rfl, rfl, SqT.of ha, rfl, rfl, _, rfl, iteN (by decide) ?_⟩
      refine ⟨_, rfl, a, _, _, _, rfl, rfl, SqT.of ha, rfl, rfl, _, rfl, iteS ?_⟩
      refine ⟨_, rfl, _, _, rfl, rfl, ?_⟩
      show Q (.int (0 - n)) H
      rw [Int.zero_sub]
      exact k
    | mod m =>
      have hm : (0 : Int) < (m : Int) := by have := ok.1; omega
      have hm2 : (m : Int) ≤ 6 := by have := ok.2; omega
      refine ⟨_, rfl, a, _, _, _, rfl, rfl, SqT.of ha, rfl, rfl, _, rfl, iteN (by decide) ?_⟩
      refine ⟨_, rfl, a, _, _, _, rfl, rfl, SqT.of ha, rfl, rfl, _, rfl, iteN (by decide) ?_⟩
      refine ⟨_, rfl, a, _, _, _, rfl, rfl, SqT.of ha, rfl, rfl, _, rfl, iteN (by decide) ?_⟩
      refine ⟨_, rfl, _, rfl, a, _, _, _, rfl, rfl, SqT.of ha, rfl, _, rfl, _, rfl, a, _, _, _, rfl, rfl, SqT.of ha, rfl, _, _, rfl, rfl, ⟨hm, by omega⟩, _, _, rfl, rfl, .inl ⟨by omega, by omega⟩, _, _, rfl, rfl, ?_⟩
      have e : n - (m : Int) * (n / (m : Int)) = n % (m : Int) := by have := Int.emod_add_mul_ediv n (m : Int); omega
      show Q (.int (n - (m : Int) * (n / (m : Int)))) H
      rw [e]
      exact k
/-! ### _law_passes -/
abbrev s_lps : Stmt := top 59
abbrev N_lps : List Str := ["_law_test_here", "_law_number"]
theorem sc_lps : FnScope N_lps ["_law_test_here", "_law_number"] (defScope s_lps) := ⟨rfl, rfl, rfl, by decide +kernel, rfl, by decide +kernel, by decide +kernel⟩
theorem rest_iff0 {m : Nat} {r n : Int} (h0 : 0 ≤ r) (h1 : r < m) : (n - r) % (m : Int) = 0 ↔ n % (m : Int) = r := by
  constructor
  · intro h
    have e : n = (n - r) + r := by omega
    rw [e, Int.add_emod, h, Int.zero_add, Int.emod_emod, Int.emod_eq_of_lt h0 h1]
  · intro h
    rw [Int.sub_emod, h, Int.emod_eq_of_lt h0 h1, Int.sub_self, Int.zero_emod]
theorem kp_lps (F : At K mg "_law_passes" s_lps) (N : Nb mg) : Keeps CX0 P w K mg base "_law_passes" 1 ["_law_test_here", "_law_number"] spPass := by
  refine keeps_of F sc_lps (fun _ _ _ _ _ _ us hl => match us, hl with | [_, _], _ => rfl) (fun vs H Q E h => ?_) (fun f cdv A outer s H vs Q E hr h => ?_)
  · obtain ⟨a, T, n, rfl, _⟩ := h
    rfl
  · obtain ⟨a, T, n, rfl, ha, ok, k⟩ := h
    refine ⟨_, (pss_cons (ps_if (pt_cmpR op_eq (pe_ix ix_tup (pv 0) pe_int (fun _ _ => rfl)) pe_str (nomark _)) (pss_one (ps_ret (pe_cmpR op_lt (pv 1) (pe_ix ix_tup (pv 0) pe_int (fun _ _ => rfl)) (nomark _)))) pss_nil)
        (pss_cons (ps_if (pt_cmpR op_eq (pe_ix ix_tup (pv 0) pe_int (fun _ _ => rfl)) pe_str (nomark _)) (pss_one (ps_ret (pe_cmpR op_eq (pv 1) (pe_ix ix_tup (pv 0) pe_int (fun _ _ => rfl)) (nomark _)))) pss_nil)
        (pss_one (ps_ret (pe_cmpR op_eq (pe_op op_mod (pe_callTy call_int1 (by rfl) N.int boot_int (pa_cons (pe_op op_sub (pv 1) (pe_ix ix_tup (pv 0) pe_int (fun _ _ => rfl))) pa_nil)) (pe_ix ix_tup (pv 0) pe_int (fun _ _ => rfl))) pe_int (nomark _)))))), ?_⟩
    cases T with
    | below v =>
      refine ⟨_, rfl, a, _, _, _, rfl, rfl, SqT.of ha, rfl, rfl, _, rfl, iteS ?_⟩
      exact ⟨_, rfl, _, rfl, a, _, _, _, rfl, rfl, SqT.of ha, rfl, _, _, rfl, rfl, k⟩
    | is v =>
      refine ⟨_, rfl, a, _, _, _, rfl, rfl, SqT.of ha, rfl, rfl, _, rfl, iteN (by decide) ?_⟩
      refine ⟨_, rfl, a, _, _, _, rfl, rfl, SqT.of ha, rfl, rfl, _, rfl, iteS ?_⟩
      refine ⟨_, rfl, _, rfl, a, _, _, _, rfl, rfl, SqT.of ha, rfl, rfl, ?_⟩
      rw [vint]
      exact k
    | rest m r =>
      have hm : (0 : Int) < (m : Int) := by have := ok.1; omega
      refine ⟨_, rfl, a, _, _, _, rfl, rfl, SqT.of ha, rfl, rfl, _, rfl, iteN (by decide) ?_⟩
      refine ⟨_, rfl, a, _, _, _, rfl, rfl, SqT.of ha, rfl, rfl, _, rfl, iteN (by decide) ?_⟩
      refine ⟨_, rfl, _, rfl, a, _, _, _, rfl, rfl, SqT.of ha, rfl, _, _, rfl, rfl, .inl ⟨_, rfl, _, rfl, a, _, _, _, rfl, rfl, SqT.of ha, rfl, _, _, rfl, rfl, hm, rfl, ?_⟩⟩
      rw [vint, dec_cong (rest_iff0 ok.2.1 ok.2.2)]
      exact k
end
end My
set_option Elab.async false
set_option linter.all false
set_option maxRecDepth 100000
set_option maxHeartbeats 8000000
namespace My
open PySem PySem.Spec PyProof.Rows L2
local macro_rules | `(tactic| walk_at "lv") => `(tactic| first | exact Or.inl rfl | exact Or.inr rfl)
theorem passE {P : Program} {w : World} {X : L2.Cx} : Passes (CX P w) X E0 := fun _ _ _ _ _ _ _ c => by
  obtain ⟨_, _, _, _, _, _, _, _, _, _, _, _, z⟩ := c
  exact z.elim
/-! ### lots by their numbers -/
theorem form_near {T : Tl} {lo hi : Int} {d : Nat} (ok : T.Ok) (f : IsForm T.has T.U T.D lo hi d) : (lo = 0 ∧ hi = -1) ∨ (T.lo - T.us.length ≤ hi ∧ hi ≤ T.hi ∧ T.lo - T.us.length ≤ lo ∧ lo ≤ hi + 1) := by
  rcases f.ends with ⟨_, _, h1, h2⟩ | ⟨h1, h2, h3, _, h5⟩
  · exact .inl ⟨h1, h2⟩
  · have hp := ok.pos
    have hh : T.hi = T.lo + T.cs.length - 1 := rfl
    have a1 : hi ≤ T.hi := Int.not_lt.mp fun z => h1 (Tl.above z)
    have a2 : T.lo - T.us.length ≤ hi := by
      refine Int.not_lt.mp fun z => h1 ?_
      have q := h2 (hi + (T.us.length : Int)) (by omega)
      rw [Tl.below (by omega)] at q
      rw [Tl.below (by omega), ← ok.pd hi, ← ok.pu hi]
      exact q
    refine .inr ⟨a2, a1, ?_, h3⟩
    rcases h5 with h5 | h5
    · omega
    · have : T.lo ≤ lo := Int.not_lt.mp fun z => h5 (Tl.below z)
      omega
theorem mem_insOf {T : Tl} {lo hi x : Int} (h : x ∈ insOf T lo hi) : lo ≤ x ∧ x ≤ hi := by
  have := (mem_fil.mp h).1
  omega
theorem mem_res0 {f : Int → Bool} {m : Nat} {r : Int} (h : r ∈ resOf f m) : 0 ≤ r ∧ r < m := by
  have := (mem_fil.mp h).1
  omega
/-- a lot of the numbers of h stands at p, its ends within B -/
def Lo (K : PySem.W.Frag) (H : Hp) (p : Addr) (B : Int) (h : Int → Prop) : Prop := ∃ (T : Tl) (lo hi : Int) (d : Nat), T.Ok ∧ (∀ n, T.has n = true ↔ h n) ∧ IsForm T.has T.U T.D lo hi d ∧ LotAt (He.ga K "Lot") H p lo hi (insOf T lo hi) d (resOf T.U d) (resOf T.D d) ∧ (-B ≤ lo ∧ hi ≤ B ∧ d ≤ 60)
theorem Lo.same {K : PySem.W.Frag} {H H' : Hp} {p : Addr} {B : Int} {h : Int → Prop} (s : Same H H') (x : Lo K H p B h) : Lo K H' p B h := by
  obtain ⟨T, lo, hi, d, a, b, c, l, e⟩ := x
  exact ⟨T, lo, hi, d, a, b, c, l.same s, e⟩
theorem Lo.iff {K : PySem.W.Frag} {H : Hp} {p : Addr} {B : Int} {h h' : Int → Prop} (x : Lo K H p B h) (e : ∀ n, h n ↔ h' n) : Lo K H p B h' := by
  obtain ⟨T, lo, hi, d, a, b, c, l, z⟩ := x
  exact ⟨T, lo, hi, d, a, fun n => (b n).trans (e n), c, l, z⟩
theorem lotS_of {T : Tl} {lo hi B : Int} {d : Nat} (f : IsForm T.has T.U T.D lo hi d) (b1 : -B ≤ lo) (b2 : hi ≤ B) (b3 : d ≤ 60) (hB : B ≤ 400) : LotS lo hi (insOf T lo hi) d (resOf T.U d) (resOf T.D d) := by
  have sz := f.size
  have e1 := fil_len T.has lo (hi + 1 - lo).toNat
  have e2 := fil_len T.U 0 d
  have e3 := fil_len T.D 0 d
  exact ⟨sz, by omega, by omega, by omega, fun x h => mem_insOf h, fun r h => mem_res0 h, fun r h => mem_res0 h, f.least.pos, by omega, by unfold insOf; omega, by unfold resOf; omega, by unfold resOf; omega⟩
theorem lotD_of {T : Tl} {lo hi B : Int} {d : Nat} (f : IsForm T.has T.U T.D lo hi d) (b1 : -B ≤ lo) (b2 : hi ≤ B) (b3 : d ≤ 60) (hB : B ≤ 400) : LotD lo hi (insOf T lo hi) d (resOf T.U d) (resOf T.D d) := by
  have sz := f.size
  have e1 := fil_len T.has lo (hi + 1 - lo).toNat
  exact ⟨sz, by omega, by omega, fun x h => mem_insOf h, fun r h => mem_res0 h, fun r h => mem_res0 h, f.least.pos, by omega, by unfold insOf; omega⟩
/-- a call that ends with a lot ends with the lot of its telling -/
theorem lot_end {K : PySem.W.Frag} {T : Tl} {H : Hp} {Q : VK} {B : Int} {h : Int → Prop} (ok : T.Ok) (hm : T.us.length ≤ 60) (b1 : -B ≤ T.lo - T.us.length) (b2 : T.hi ≤ B) (b3 : 1 ≤ B ∧ B ≤ 400) (hh : ∀ n, T.has n = true ↔ h n) (k : ∀ p H', Same H H' → Lo K H' p B h → Q (.ref p) H') : LotEnd K T H Q E0 := by
  refine ⟨fun p lo hi d H' f _ _ s l => k p H' s ⟨T, lo, hi, d, ok, hh, f, l, ?_⟩, fun lo hi d dd H' f out _ _ => ?_⟩
  · have dl := f.least.le _ ok.pos ok.pu ok.pd
    rcases form_near ok f with z | z <;> exact ⟨by omega, by omega, Nat.le_trans dl hm⟩
  · have : False := by
      rcases form_near ok f with z | z <;> omega
    exact this.elim
theorem num_rng {lo : Int} {n : Nat} {xs : List Int} {m : Nat} {us ds : List Int} (hm : 0 < m) (x : Int) : (tlOf lo n xs m us ds).has x = true ↔ lotHas lo (lo + n - 1) xs m us ds x = true := by rw [tlOf_has hm]
theorem least_one {T : Tl} (ok : T.Ok) (h : T.us.length = 1) : Least T.U T.D 1 := by
  have a := ok.pu
  have b := ok.pd
  unfold Tl.m at a b
  rw [h] at a b
  exact ⟨by decide, a, b, fun e he _ _ => he⟩
theorem lo_lit {K : PySem.W.Frag} {H : Hp} {p : Addr} {B : Int} (v : Bool) (hB : 1 ≤ B) (l : LotAt (He.ga K "Lot") H p 0 (-1) [] 1 (if v = true then [0] else []) (if v = true then [0] else [])) : Lo K H p B fun _ => v = true := by
  have q : ∀ x : Int, x % ((1 : Nat) : Int) = 0 := fun x => by omega
  have ok : (tlOf 0 0 [] 1 (if v = true then [0] else []) (if v = true then [0] else [])).Ok := tlOf_ok (by decide)
  have eh : ∀ x, (tlOf 0 0 [] 1 (if v = true then [0] else []) (if v = true then [0] else [])).has x = v := fun x => by
    rw [tlOf_has (by decide)]
    unfold lotHas
    rw [q]
    have c : 0 + ((0 : Nat) : Int) - 1 < x ∨ x < 0 := by omega
    cases v
    · rcases c with c | c
      · rw [if_pos c]; rfl
      · rw [if_neg (by omega), if_pos c]; rfl
    · rcases c with c | c
      · rw [if_pos c]; rfl
      · rw [if_neg (by omega), if_pos c]; rfl
  have eU : ∀ x, (tlOf 0 0 [] 1 (if v = true then [0] else []) (if v = true then [0] else [])).U x = v := fun x => by
    rw [tlOf_U (by decide), q]
    cases v <;> rfl
  have eD : ∀ x, (tlOf 0 0 [] 1 (if v = true then [0] else []) (if v = true then [0] else [])).D x = v := fun x => by
    rw [tlOf_D (by decide), q]
    cases v <;> rfl
  have f := form_none ok (least_one ok (by rw [tlOf_m])) fun n => (eh n).trans (eU n).symm
  refine ⟨_, 0, -1, 1, ok, fun n => by rw [eh n], f, ?_, by omega, by omega, by decide⟩
  have r : ∀ g : Int → Bool, (∀ x, g x = v) → resOf g 1 = if v = true then [0] else [] := fun g hg => by
    unfold resOf
    cases v
    · rw [if_neg Bool.false_ne_true]
      cases e : fil g 0 1 with
      | nil => rfl
      | cons y ys =>
        have := (mem_fil.mp (show y ∈ fil g 0 1 by rw [e]; exact List.mem_cons_self)).2
        rw [hg] at this
        cases this
    · rw [if_pos rfl, fil_pos (n := 0) (by rw [hg])]
      rfl
  rw [r _ eU, r _ eD]
  exact l
/-- what the walks ask of the class Lot -/
structure LotM (P : Program) (w : World) (K : PySem.W.Frag) (mg : Str → Option Value) (base : Heap) : Prop where
  lt : LotTxt K mg (He.ga K "Lot")
  ch : PySem.W.findIn K (.ref (He.ga K "Lot")) "__contains__" = some (some (.ref (He.ma K (He.ga K "Lot") "__contains__")))
  cf : PySem.W.isFn K (.ref (He.ma K (He.ga K "Lot") "__contains__")) = true
  ck : KeepsM P w K mg base (He.ma K (He.ga K "Lot") "__contains__") 1 ["self", "number"] (spLotC (He.ga K "Lot"))
  eh : PySem.W.findIn K (.ref (He.ga K "Lot")) "__eq__" = some (some (.ref (He.ma K (He.ga K "Lot") "__eq__")))
  ef : PySem.W.isFn K (.ref (He.ma K (He.ga K "Lot") "__eq__")) = true
  ek : KeepsM P w K mg base (He.ma K (He.ga K "Lot") "__eq__") 1 ["self", "other"] (spLotE (He.ga K "Lot"))
  bare : ∃ p g, PropOf K (He.ga K "Lot") "bare" p g ∧ KeepsM P w K mg base g 1 ["self"] (spLotB (He.ga K "Lot"))
/-- n in a lot -/
theorem Lo.in {K : PySem.W.Frag} {H : Hp} {p : Addr} {B n : Int} {h : Int → Prop} (x : Lo K H p B h) : ∃ (dx : Addr) (fs : List (Str × V)) (b : Bool), H p = some (.ins (He.ga K "Lot") dx fs) ∧ (b = true ↔ h n) ∧ ∀ Q' : VK, Q' (.bl b) H → spLotC (He.ga K "Lot") [.ref p, .int n] H Q' E0 := by
  obtain ⟨T, lo, hi, d, ok, hh, f, l, b⟩ := x
  obtain ⟨dx, a1, a2, a3, hp, _⟩ := id l
  refine ⟨dx, _, T.has n, hp, hh n, fun Q' q => ⟨p, n, lo, hi, d, _, _, _, rfl, l, f.least.pos, ?_⟩⟩
  rw [has_of f]
  exact q
section
variable {P : Program} {w : World} {K : PySem.W.Frag} {mg : Str → Option Value} {base : Heap}
/-! ### _lot_of_rests -/
def spLR (K : PySem.W.Frag) : Sp := fun vs H Q _ => ∃ (m : Nat) (a : Addr) (rs : List Int), vs = [.int m, .ref a] ∧ H a = some (.lst (rs.map V.int)) ∧ (1 ≤ m ∧ m ≤ 6) ∧ rs.Nodup ∧ rs.length ≤ 6 ∧ (∀ r ∈ rs, 0 ≤ r ∧ r < m) ∧ ∀ p H', Same H H' → Lo K H' p 10 (fun x => x % (m : Int) ∈ rs) → Q (.ref p) H'
abbrev s_lr : Stmt := top 46
abbrev N_lr : List Str := ["modulus", "rests"]
theorem sc_lr : FnScope N_lr ["modulus", "rests"] (defScope s_lr) := ⟨rfl, rfl, rfl, by decide +kernel, rfl, by decide +kernel, by decide +kernel⟩
theorem kp_lr (F : At K mg "_lot_of_rests" s_lr) (Gm : Keeps (CX P w) P w K mg base "make_lot" 4 ["low", "high", "inside", "modulus", "ups", "downs"] (spMake K)) : Keeps CX0 P w K mg base "_lot_of_rests" 5 ["modulus", "rests"] (spLR K) := by
  refine keeps_of F sc_lr (fun _ _ _ _ _ _ us hl => match us, hl with | [_, _], _ => rfl) (fun vs H Q E h => ?_) (fun f cdv A outer s H vs Q E hr h => ?_)
  · obtain ⟨m, a, rs, rfl, _⟩ := h
    rfl
  · obtain ⟨m, a, rs, rfl, ha, ⟨m1, m6⟩, nd, ln, hb, k⟩ := h
    have hm : 0 < m := m1
    refine ⟨_, (pss_one (ps_ret (pe_k Gm hr (by rfl) (passE (P := P) (w := w)) (pa_cons pe_int (pa_cons (pe_un un_neg pe_int) (pa_cons (pe_tup pa_nil) (pa_cons (pv 0) (pa_cons (pv 1) (pa_cons (pv 1) pa_nil))))))))), ?_⟩
    refine ⟨_, rfl, (by show 0 ≤ sizeLine; decide), fun t ht => ?_⟩
    have s1 := same_new (o := .tup []) (Same.refl H) ht
    refine ⟨_, rfl, _, rfl, _, rfl, tlOf 0 0 [] m rs rs, t, a, a, [], rs, rs, by rw [tlOf_hi, tlOf_m]; rfl, ⟨tlOf_ok hm, by rw [tlOf_m]; omega, by rw [tlOf_c]; omega, (by show -10 ^ 31 ≤ (0 : Int) ∧ (0 : Int) ≤ 10 ^ 31; omega)⟩, ⟨by rw [tlOf_c]; omega, by rw [tlOf_m]; omega⟩, (by show -20000 ≤ (0 : Int); omega), by rw [tlOf_hi]; omega, tlOf_told (fun _ z => nomatch z) hb hb, ⟨List.nodup_nil, nd, nd⟩, ⟨by show 0 ≤ 60000; decide, by omega, by omega⟩, .inr upd_same, .inl (s1 _ _ ha), .inl (s1 _ _ ha), ?_⟩
    refine lot_end (B := 10) (tlOf_ok hm) (by rw [tlOf_m]; omega) (by rw [tlOf_m]; show -10 ≤ (0 : Int) - _; omega) (by rw [tlOf_hi]; omega) (by omega) (fun x => ?_) fun p H' s2 l => k p H' (s1.trans s2) l
    rw [num_rng hm]
    unfold lotHas
    by_cases c : 0 + ((0 : Nat) : Int) - 1 < x
    · rw [if_pos c, decide_eq_true_iff]
    · rw [if_neg c, if_pos (by omega), decide_eq_true_iff]
end
end My
set_option Elab.async false
set_option linter.all false
set_option maxRecDepth 100000
set_option maxHeartbeats 8000000
namespace My
open PySem PySem.Spec PyProof.Rows L2
local macro_rules | `(tactic| walk_at "lv") => `(tactic| first | exact Or.inl rfl | exact Or.inr rfl)
section
variable {P : Program} {w : World} {K : PySem.W.Frag} {mg : Str → Option Value} {base : Heap}
/-! ### lot_of_test -/
theorem lo_just {K : PySem.W.Frag} {H : Hp} {a : Addr} {v : Int} {Q : VK} (ha : H a = some (.lst [V.int v])) (hv : -20 ≤ v ∧ v ≤ 20) (k : ∀ p H', Same H H' → Lo K H' p 30 (fun x => x = v) → Q (.ref p) H') : spJust K [.ref a] H Q E0 := by
  refine ⟨a, [v], rfl, ha, fun n hn => ?_, fun x hx y hy => ?_, (fun z => nomatch z), fun lo hi h1 _ h2 _ => ?_⟩
  · rw [List.mem_singleton.mp hn]; omega
  · rw [List.mem_singleton.mp hx, List.mem_singleton.mp hy]; omega
  · rw [List.mem_singleton.mp h1, List.mem_singleton.mp h2]
    refine lot_end (B := 30) (tlOf_ok (by decide)) (by rw [tlOf_m]; decide) (by rw [tlOf_m]; show -30 ≤ v - _; omega) (by rw [tlOf_hi]; omega) (by omega) (fun x => ?_) k
    rw [num_rng (by decide)]
    unfold lotHas
    by_cases c : v + ((v + 1 - v).toNat : Int) - 1 < x
    · rw [if_pos c]
      exact ⟨fun z => (by cases z), fun z => by omega⟩
    · rw [if_neg c]
      by_cases c2 : x < v
      · rw [if_pos c2]
        exact ⟨fun z => (by cases z), fun z => by omega⟩
      · rw [if_neg c2, decide_eq_true_iff, List.mem_singleton]
def spLT (K : PySem.W.Frag) : Sp := fun vs H Q _ => ∃ (a : Addr) (T : Ts), vs = [.ref a] ∧ H a = some (.tup T.vs) ∧ T.Ok ∧ ∀ p H', Same H H' → Lo K H' p 30 (fun x => T.pass x = true) → Q (.ref p) H'
abbrev s_lt : Stmt := top 45
abbrev N_lt : List Str := ["test"]
theorem sc_lt : FnScope N_lt ["test"] (defScope s_lt) := ⟨rfl, rfl, rfl, by decide +kernel, rfl, by decide +kernel, by decide +kernel⟩
theorem Lo.wide {K : PySem.W.Frag} {H : Hp} {p : Addr} {B B' : Int} {h : Int → Prop} (x : Lo K H p B h) (hB : B ≤ B') : Lo K H p B' h := by
  obtain ⟨T, lo, hi, d, a, b, c, l, z1, z2, z3⟩ := x
  exact ⟨T, lo, hi, d, a, b, c, l, by omega, by omega, z3⟩
theorem kp_lt (F : At K mg "lot_of_test" s_lt) (Gr : Keeps (CX P w) P w K mg base "range_lot" 4 ["low", "high"] (spRange K)) (Gj : Keeps (CX P w) P w K mg base "just_lot" 4 ["numbers"] (spJust K)) (Gl_ : Keeps CX0 P w K mg base "_lot_of_rests" 5 ["modulus", "rests"] (spLR K)) :
    Keeps CX0 P w K mg base "lot_of_test" 6 ["test"] (spLT K) := by
  refine keeps_of F sc_lt (fun _ _ _ _ _ _ us hl => match us, hl with | [_], _ => rfl) (fun vs H Q E h => ?_) (fun f cdv A outer s H vs Q E hr h => ?_)
  · obtain ⟨a, T, rfl, _⟩ := h
    rfl
  · obtain ⟨a, T, rfl, ha, ok, k⟩ := h
    have h4 : Room 4 (A.deeper (envOfC "lot_of_test" (defScope s_lt) s.heap.objs.size f cdv)) := hr.mono (by decide)
    refine ⟨_, (pss_cons (ps_if (pt_cmpR op_eq (pe_ix ix_tup (pv 0) pe_int (fun _ _ => rfl)) pe_str (nomark _)) (pss_one (ps_ret (pe_k Gr h4 (by rfl) (passE (P := P) (w := w)) (pa_cons pe_non (pa_cons (pe_op op_sub (pe_ix ix_tup (pv 0) pe_int (fun _ _ => rfl)) pe_int) pa_nil))))) pss_nil)
        (pss_cons (ps_if (pt_cmpR op_eq (pe_ix ix_tup (pv 0) pe_int (fun _ _ => rfl)) pe_str (nomark _)) (pss_one (ps_ret (pe_k Gj h4 (by rfl) (passE (P := P) (w := w)) (pa_cons (pe_lst (pa_cons (pe_ix ix_tup (pv 0) pe_int (fun _ _ => rfl)) pa_nil)) pa_nil)))) pss_nil)
        (pss_one (ps_ret (pe_k Gl_ hr (by rfl) pass0 (pa_cons (pe_ix ix_tup (pv 0) pe_int (fun _ _ => rfl)) (pa_cons (pe_lst (pa_cons (pe_ix ix_tup (pv 0) pe_int (fun _ _ => rfl)) pa_nil)) pa_nil))))))), ?_⟩
    cases T with
    | below v =>
      refine ⟨_, rfl, a, _, _, _, rfl, rfl, SqT.of ha, rfl, rfl, _, rfl, iteS ?_⟩
      have hv : -20 ≤ v ∧ v ≤ 20 := ok
      refine ⟨_, rfl, a, _, _, _, rfl, rfl, SqT.of ha, rfl, _, _, rfl, rfl, .inr (.inl ⟨v - 1, rfl, ⟨by omega, by omega⟩, ?_⟩)⟩
      refine lot_end (B := 30) (tlOf_ok (by decide)) (by rw [tlOf_m]; decide) (by rw [tlOf_m]; show -30 ≤ v - 1 + 1 - _; omega) (by rw [tlOf_hi]; omega) (by omega) (fun x => ?_) k
      rw [num_rng (by decide)]
      unfold lotHas
      have q : ∀ x : Int, x % ((1 : Nat) : Int) = 0 := fun x => by omega
      rw [q]
      by_cases c : v - 1 + 1 + ((0 : Nat) : Int) - 1 < x
      · rw [if_pos c]
        exact ⟨fun z => (by cases z), fun z => by have := of_decide_eq_true z; omega⟩
      · rw [if_neg c, if_pos (by omega)]
        exact ⟨fun _ => decide_eq_true (by omega), fun _ => rfl⟩
    | is v =>
      refine ⟨_, rfl, a, _, _, _, rfl, rfl, SqT.of ha, rfl, rfl, _, rfl, iteN (by decide) ?_⟩
      refine ⟨_, rfl, a, _, _, _, rfl, rfl, SqT.of ha, rfl, rfl, _, rfl, iteS ?_⟩
      refine ⟨_, rfl, a, _, _, _, rfl, rfl, SqT.of ha, rfl, (by show 1 ≤ sizeLine; decide), fun l hl => ?_⟩
      exact lo_just upd_same ok fun p H' s2 q => k p H' ((same_new (Same.refl H) hl).trans s2) (q.iff fun n => (decide_eq_true_iff (p := n = v)).symm)
    | rest m r =>
      obtain ⟨⟨m1, m6⟩, r0, r1⟩ := ok
      refine ⟨_, rfl, a, _, _, _, rfl, rfl, SqT.of ha, rfl, rfl, _, rfl, iteN (by decide) ?_⟩
      refine ⟨_, rfl, a, _, _, _, rfl, rfl, SqT.of ha, rfl, rfl, _, rfl, iteN (by decide) ?_⟩
      refine ⟨_, rfl, a, _, _, _, rfl, rfl, SqT.of ha, rfl, _, rfl, a, _, _, _, rfl, rfl, SqT.of ha, rfl, (by show 1 ≤ sizeLine; decide), fun l hl => ?_⟩
      refine ⟨m, l, [r], rfl, upd_same, ⟨m1, m6⟩, by simp, by show 1 ≤ 6; decide, fun x hx => by rw [List.mem_singleton.mp hx]; exact ⟨r0, r1⟩, fun p H' s2 q => k p H' ((same_new (Same.refl H) hl).trans s2) ((q.wide (by decide)).iff fun n => ?_)⟩
      rw [List.mem_singleton]
      exact (decide_eq_true_iff (p := n % (m : Int) = r)).symm
/-! ### lot_after -/
def spAft (K : PySem.W.Frag) : Sp := fun vs H Q _ => ∃ (a p : Addr) (L : Lt) (B : Int) (h : Int → Prop), vs = [.ref a, .ref p] ∧ H a = some (.tup L.vs) ∧ L.Ok ∧ Lo K H p B h ∧ (30 ≤ B ∧ B ≤ 300) ∧ ∀ q H', Same H H' → Lo K H' q (B + 80) (fun x => ∃ y, h y ∧ L.deed y = x) → Q (.ref q) H'
theorem lo_moved {K : PySem.W.Frag} {H : Hp} {p : Addr} {B b : Int} {h : Int → Prop} {Q : VK} (x : Lo K H p B h) (hB : 30 ≤ B ∧ B ≤ 300) (hb : -20 ≤ b ∧ b ≤ 20) (k : ∀ q H', Same H H' → Lo K H' q (B + 80) (fun x => h (x - b)) → Q (.ref q) H') : spMoved K [.ref p, .int b] H Q E0 := by
  obtain ⟨T, lo, hi, d, ok, hh, f, l, b1, b2, b3⟩ := x
  have D := lotS_of f b1 b2 b3 (by omega)
  have hd := f.least.pos
  have sz := f.size
  have eh : lo + b + ((hi + 1 - lo).toNat : Int) - 1 = hi + b := by omega
  refine ⟨p, b, lo, hi, d, _, _, _, rfl, l, D, by omega, ?_⟩
  refine lot_end (B := B + 80) (tlOf_ok hd) (by rw [tlOf_m]; exact b3) (by rw [tlOf_m]; show -(B + 80) ≤ lo + b - _; omega) (by rw [tlOf_hi, eh]; omega) (by omega) (fun x => ?_) k
  rw [num_rng hd, eh, lot_moved D.u D.d, has_of f]
  exact hh _
theorem lo_turned {K : PySem.W.Frag} {H : Hp} {p : Addr} {B : Int} {h : Int → Prop} {Q : VK} (x : Lo K H p B h) (hB : 30 ≤ B ∧ B ≤ 300) (k : ∀ q H', Same H H' → Lo K H' q (B + 80) (fun x => h (-x)) → Q (.ref q) H') : spTn K [.ref p] H Q E0 := by
  obtain ⟨T, lo, hi, d, ok, hh, f, l, b1, b2, b3⟩ := x
  have D := lotS_of f b1 b2 b3 (by omega)
  have hd := f.least.pos
  have sz := f.size
  have eh : -hi + ((hi + 1 - lo).toNat : Int) - 1 = -lo := by omega
  refine ⟨p, lo, hi, d, _, _, _, rfl, l, D, ?_⟩
  refine lot_end (B := B + 80) (tlOf_ok hd) (by rw [tlOf_m]; exact b3) (by rw [tlOf_m]; show -(B + 80) ≤ -hi - _; omega) (by rw [tlOf_hi, eh]; omega) (by omega) (fun x => ?_) k
  rw [num_rng hd, eh, lot_turned sz D.u D.d, has_of f]
  exact hh _
theorem lo_rest {K : PySem.W.Frag} {H : Hp} {p : Addr} {B : Int} {h : Int → Prop} {m : Nat} {Q : VK} (x : Lo K H p B h) (hB : 30 ≤ B ∧ B ≤ 300) (hm : 1 ≤ m ∧ m ≤ 6) (k : ∀ q H', Same H H' → Lo K H' q (B + 80) (fun x => ∃ y, h y ∧ y % (m : Int) = x) → Q (.ref q) H') : spRest K [.ref p, .int m] H Q E0 := by
  obtain ⟨T, lo, hi, d, ok, hh, f, l, b1, b2, b3⟩ := x
  have D := lotS_of f b1 b2 b3 (by omega)
  have hd := f.least.pos
  have hm0 : 0 < m := hm.1
  have rs : ∀ {x : Int}, 0 ≤ x → x < m → (RestS (insOf T lo hi) d (resOf T.U d) (resOf T.D d) m x ↔ ∃ y, h y ∧ y % (m : Int) = x) := fun {x} x0 x1 => by
    rw [rest_iff hd hm0 f.size (fun y z => mem_insOf z) (fun r z => mem_res0 z) (fun r z => mem_res0 z) x0 x1]
    exact ⟨fun ⟨y, h1, h2⟩ => ⟨y, (hh y).mp (by rw [← has_of f]; exact h1), h2⟩, fun ⟨y, h1, h2⟩ => ⟨y, by rw [has_of f]; exact (hh y).mpr h1, h2⟩⟩
  have c1 : ((0 : Int) + (m : Int) - 1) = (m : Int) - 1 := by omega
  have hx : ∀ x, (tlOf 0 m (fil (fun x => @decide (RestS (insOf T lo hi) d (resOf T.U d) (resOf T.D d) m x) (Classical.propDecidable _)) 0 m) 1 [] []).has x = true ↔ (0 ≤ x ∧ x < m) ∧ RestS (insOf T lo hi) d (resOf T.U d) (resOf T.D d) m x := fun x => by
    rw [num_rng (by decide)]
    unfold lotHas
    by_cases c : (0 : Int) + (m : Int) - 1 < x
    · rw [if_pos c]
      exact ⟨fun z => (by cases z), fun z => by omega⟩
    · rw [if_neg c]
      by_cases c2 : x < 0
      · rw [if_pos c2]
        exact ⟨fun z => (by cases z), fun z => by omega⟩
      · rw [if_neg c2, decide_eq_true_iff, mem_fil]
        constructor
        · rintro ⟨⟨a1, a2⟩, a3⟩
          exact ⟨⟨a1, by omega⟩, @of_decide_eq_true _ (Classical.propDecidable _) a3⟩
        · rintro ⟨⟨a1, a2⟩, a3⟩
          exact ⟨⟨a1, by omega⟩, @decide_eq_true _ (Classical.propDecidable _) a3⟩
  refine ⟨p, m, lo, hi, d, _, _, _, tlOf 0 m (fil (fun x => @decide (RestS (insOf T lo hi) d (resOf T.U d) (resOf T.D d) m x) (Classical.propDecidable _)) 0 m) 1 [] [], rfl, l, D, ⟨hm0, by omega⟩, hx, fun x => ?_, fun x => ?_, by rw [tlOf_m], ?_, ?_⟩
  · rw [tlOf_U (by decide)]; rfl
  · rw [tlOf_D (by decide)]; rfl
  · exact (tlOf_ok (by decide)).len.trans tlOf_m
  · refine lot_end (B := B + 80) (tlOf_ok (by decide)) (by rw [tlOf_m]; decide) (by rw [tlOf_m]; show -(B + 80) ≤ (0 : Int) - _; omega) (by rw [tlOf_hi]; omega) (by omega) (fun x => ?_) k
    rw [hx]
    constructor
    · rintro ⟨⟨x0, x1⟩, z⟩
      exact (rs x0 x1).mp z
    · rintro ⟨y, h1, h2⟩
      have x0 := Int.emod_nonneg y (by omega : (m : Int) ≠ 0)
      have x1 := Int.emod_lt_of_pos y (by omega : (0 : Int) < (m : Int))
      rw [h2] at x0 x1
      exact ⟨⟨x0, x1⟩, (rs x0 x1).mpr ⟨y, h1, h2⟩⟩
end
end My
set_option Elab.async false
set_option linter.all false
set_option maxRecDepth 100000
set_option maxHeartbeats 8000000
namespace My
open PySem PySem.Spec PyProof.Rows L2
local macro_rules | `(tactic| walk_at "lv") => `(tactic| first | exact Or.inl rfl | exact Or.inr rfl)
theorem bare_iff {T : Tl} {lo hi : Int} {d : Nat} (f : IsForm T.has T.U T.D lo hi d) : ((insOf T lo hi).isEmpty && ((resOf T.U d).isEmpty && (resOf T.D d).isEmpty)) = true ↔ ∀ y, T.has y = false := by
  have hd := f.least.pos
  constructor
  · intro z y
    obtain ⟨z1, z2⟩ := Bool.and_eq_true_iff.mp z
    obtain ⟨z2, z3⟩ := Bool.and_eq_true_iff.mp z2
    rw [← has_of f]
    unfold lotHas
    rw [List.isEmpty_iff.mp z1, List.isEmpty_iff.mp z2, List.isEmpty_iff.mp z3]
    split
    · rfl
    · split <;> rfl
  · intro z
    have hp : ∀ r k : Int, 0 ≤ k → (r + (d : Int) * k) % (d : Int) = r % (d : Int) := fun r k _ => Int.add_mul_emod_self_left r d k
    have eU : ∀ r, T.U r = false := fun r => by
      have n1 : (1 : Int) ≤ (d : Int) := by omega
      have n2 : hi.natAbs + r.natAbs + 1 ≤ (d : Int) * (hi.natAbs + r.natAbs + 1) := by
        have := Int.mul_le_mul_of_nonneg_right n1 (by omega : (0 : Int) ≤ hi.natAbs + r.natAbs + 1)
        omega
      rw [← f.least.pu.cong (hp r (hi.natAbs + r.natAbs + 1) (by omega)), ← f.above (by omega)]
      exact z _
    have eD : ∀ r, T.D r = false := fun r => by
      have n1 : (1 : Int) ≤ (d : Int) := by omega
      have n2 : lo.natAbs + r.natAbs + 1 ≤ (d : Int) * (lo.natAbs + r.natAbs + 1) := by
        have := Int.mul_le_mul_of_nonneg_right n1 (by omega : (0 : Int) ≤ lo.natAbs + r.natAbs + 1)
        omega
      have e2 : (r + (d : Int) * (-(lo.natAbs + r.natAbs + 1))) % (d : Int) = r % (d : Int) := Int.add_mul_emod_self_left r d _
      have e3 : (d : Int) * (-(lo.natAbs + r.natAbs + 1)) = -((d : Int) * (lo.natAbs + r.natAbs + 1)) := Int.mul_neg _ _
      rw [← f.least.pd.cong e2, ← f.below (by omega)]
      exact z _
    exact Bool.and_eq_true_iff.mpr ⟨empty_fil z, Bool.and_eq_true_iff.mpr ⟨empty_fil eU, empty_fil eD⟩⟩
section
variable {P : Program} {w : World} {K : PySem.W.Frag} {mg : Str → Option Value} {base : Heap}
/-! ### lot_after -/
abbrev s_aft : Stmt := top 47
abbrev N_aft : List Str := ["letter", "lot"]
theorem sc_aft : FnScope N_aft ["letter", "lot"] (defScope s_aft) := ⟨rfl, rfl, rfl, by decide +kernel, rfl, by decide +kernel, by decide +kernel⟩
theorem kp_aft (F : At K mg "lot_after" s_aft) (S : LotM P w K mg base) (Ge : Keeps CX0 P w K mg base "empty_lot" 3 [] (spLit K [] [])) (Gj : Keeps (CX P w) P w K mg base "just_lot" 4 ["numbers"] (spJust K)) (Gm : Keeps (CX P w) P w K mg base "moved_lot" 4 ["lot", "by"] (spMoved K))
    (Gt : Keeps (CX P w) P w K mg base "turned_lot" 4 ["lot"] (spTn K)) (Gr : Keeps (CX P w) P w K mg base "rest_lot" 5 ["lot", "many"] (spRest K)) : Keeps CX0 P w K mg base "lot_after" 6 ["letter", "lot"] (spAft K) := by
  refine keeps_of F sc_aft (fun _ _ _ _ _ _ us hl => match us, hl with | [_, _], _ => rfl) (fun vs H Q E h => ?_) (fun f cdv A outer s H vs Q E hr h => ?_)
  · obtain ⟨a, p, L, B, h, rfl, _⟩ := h
    rfl
  · obtain ⟨a, p, L, B, h, rfl, ha, ok, x, hB, k⟩ := h
    have h4 : Room 4 (A.deeper (envOfC "lot_after" (defScope s_aft) s.heap.objs.size f cdv)) := hr.mono (by decide)
    have h3 : Room 3 (A.deeper (envOfC "lot_after" (defScope s_aft) s.heap.objs.size f cdv)) := hr.mono (by decide)
    have h2 : Room 2 (A.deeper (envOfC "lot_after" (defScope s_aft) s.heap.objs.size f cdv)) := hr.mono (by decide)
    obtain ⟨pb, gb, Pb, fb, Fb, bb⟩ := S.bare
    refine ⟨_, (pss_cons (ps_if (pt_cmpR op_eq (pe_ix ix_tup (pv 0) pe_int (fun _ _ => rfl)) pe_str (nomark _)) (pss_one (ps_ret (pe_ifExp (pt_val (pe_prop (pv 1) S.lt.cl Pb Fb h2 bb .nil pass0 rfl)) (pe_k0 Ge h3 (by rfl) pass0) (pe_k Gj h4 (by rfl) (passE (P := P) (w := w)) (pa_cons (pe_lst (pa_cons (pe_ix ix_tup (pv 0) pe_int (fun _ _ => rfl)) pa_nil)) pa_nil))))) pss_nil)
        (pss_cons (ps_if (pt_cmpR op_eq (pe_ix ix_tup (pv 0) pe_int (fun _ _ => rfl)) pe_str (nomark _)) (pss_one (ps_ret (pe_k Gm h4 (by rfl) (passE (P := P) (w := w)) (pa_cons (pv 1) (pa_cons (pe_ix ix_tup (pv 0) pe_int (fun _ _ => rfl)) pa_nil))))) pss_nil)
        (pss_cons (ps_if (pt_cmpR op_eq (pe_ix ix_tup (pv 0) pe_int (fun _ _ => rfl)) pe_str (nomark _)) (pss_one (ps_ret (pe_k Gt h4 (by rfl) (passE (P := P) (w := w)) (pa_cons (pv 1) pa_nil)))) pss_nil)
        (pss_one (ps_ret (pe_k Gr hr (by rfl) (passE (P := P) (w := w)) (pa_cons (pv 1) (pa_cons (pe_ix ix_tup (pv 0) pe_int (fun _ _ => rfl)) pa_nil)))))))), ?_⟩
    cases L with
    | set v =>
      refine ⟨_, rfl, a, _, _, _, rfl, rfl, SqT.of ha, rfl, rfl, _, rfl, iteS ?_⟩
      obtain ⟨T, lo, hi, d, ok', hh, fm, l, b1, b2, b3⟩ := x
      obtain ⟨dx, a1, a2, a3, hp, _⟩ := id l
      refine ⟨_, rfl, p, dx, _, rfl, hp, p, lo, hi, d, _, _, _, rfl, l, _, rfl, ?_⟩
      have eb := bare_iff fm
      cases e : ((insOf T lo hi).isEmpty && ((resOf T.U d).isEmpty && (resOf T.D d).isEmpty)) with
      | true =>
        have z := eb.mp e
        refine iteT ⟨rfl, fun q H' s2 lq => k q H' s2 ((lo_lit (B := B + 80) false (by omega) lq).iff fun n => ⟨fun c => (by cases c), fun ⟨y, hy, _⟩ => ?_⟩)⟩
        have := (hh y).mpr hy
        rw [z y] at this
        exact this
      | false =>
        refine iteF ⟨_, rfl, a, _, _, _, rfl, rfl, SqT.of ha, rfl, (by show 1 ≤ sizeLine; decide), fun l hl => ?_⟩
        refine lo_just upd_same ok fun q H' s2 lq => k q H' ((same_new (Same.refl H) hl).trans s2) ((lq.wide (by omega)).iff fun n => ⟨fun c => ?_, fun ⟨y, _, c⟩ => c.symm⟩)
        have : ∃ y, T.has y = true := Classical.byContradiction fun z => by
          have := eb.mpr fun y => by
            cases ey : T.has y with
            | false => rfl
            | true => exact absurd ⟨y, ey⟩ z
          rw [e] at this
          cases this
        obtain ⟨y, hy⟩ := this
        exact ⟨y, (hh y).mp hy, c.symm⟩
    | add v =>
      refine ⟨_, rfl, a, _, _, _, rfl, rfl, SqT.of ha, rfl, rfl, _, rfl, iteN (by decide) ?_⟩
      refine ⟨_, rfl, a, _, _, _, rfl, rfl, SqT.of ha, rfl, rfl, _, rfl, iteS ?_⟩
      refine ⟨_, rfl, _, rfl, a, _, _, _, rfl, rfl, SqT.of ha, rfl, lo_moved x hB ok fun q H' s2 lq => k q H' s2 (lq.iff fun n => ⟨fun c => ⟨n - v, c, ?_⟩, fun ⟨y, c, e⟩ => ?_⟩)⟩
      · show n - v + v = n
        omega
      · have e : y + v = n := e
        rw [show n - v = y by omega]
        exact c
    | turn =>
      refine ⟨_, rfl, a, _, _, _, rfl, rfl, SqT.of ha, rfl, rfl, _, rfl, iteN (by decide) ?_⟩
      refine ⟨_, rfl, a, _, _, _, rfl, rfl, SqT.of ha, rfl, rfl, _, rfl, iteN (by decide) ?_⟩
      refine ⟨_, rfl, a, _, _, _, rfl, rfl, SqT.of ha, rfl, rfl, _, rfl, iteS ?_⟩
      refine ⟨_, rfl, lo_turned x hB fun q H' s2 lq => k q H' s2 (lq.iff fun n => ⟨fun c => ⟨-n, c, ?_⟩, fun ⟨y, c, e⟩ => ?_⟩)⟩
      · show - -n = n
        omega
      · have e : -y = n := e
        rw [show -n = y by omega]
        exact c
    | mod m =>
      refine ⟨_, rfl, a, _, _, _, rfl, rfl, SqT.of ha, rfl, rfl, _, rfl, iteN (by decide) ?_⟩
      refine ⟨_, rfl, a, _, _, _, rfl, rfl, SqT.of ha, rfl, rfl, _, rfl, iteN (by decide) ?_⟩
      refine ⟨_, rfl, a, _, _, _, rfl, rfl, SqT.of ha, rfl, rfl, _, rfl, iteN (by decide) ?_⟩
      exact ⟨_, rfl, _, rfl, a, _, _, _, rfl, rfl, SqT.of ha, rfl, lo_rest x hB ok fun q H' s2 lq => k q H' s2 (lq.iff fun n => Iff.rfl)⟩
/-! ### lot_before -/
def spBef (K : PySem.W.Frag) : Sp := fun vs H Q _ => ∃ (a p : Addr) (L : Lt) (B : Int) (h : Int → Prop), vs = [.ref a, .ref p] ∧ H a = some (.tup L.vs) ∧ L.Ok ∧ Lo K H p B h ∧ (30 ≤ B ∧ B ≤ 300) ∧ ∀ q H', Same H H' → Lo K H' q (B + 80) (fun x => h (L.deed x)) → Q (.ref q) H'
abbrev s_bef : Stmt := top 48
abbrev N_bef : List Str := ["letter", "lot", "rest"]
theorem sc_bef : FnScope N_bef ["letter", "lot"] (defScope s_bef) := ⟨rfl, rfl, rfl, by decide +kernel, rfl, by decide +kernel, by decide +kernel⟩
theorem kp_bef (F : At K mg "lot_before" s_bef) (N : Nb mg) (S : LotM P w K mg base) (Ge : Keeps CX0 P w K mg base "empty_lot" 3 [] (spLit K [] [])) (Gw : Keeps CX0 P w K mg base "whole_lot" 3 [] (spLit K [0] [0])) (Gm : Keeps (CX P w) P w K mg base "moved_lot" 4 ["lot", "by"] (spMoved K))
    (Gt : Keeps (CX P w) P w K mg base "turned_lot" 4 ["lot"] (spTn K)) (Gl_ : Keeps CX0 P w K mg base "_lot_of_rests" 5 ["modulus", "rests"] (spLR K)) : Keeps CX0 P w K mg base "lot_before" 6 ["letter", "lot"] (spBef K) := by
  refine keeps_of F sc_bef (fun _ _ _ _ _ _ us hl => match us, hl with | [_, _], _ => rfl) (fun vs H Q E h => ?_) (fun f cdv A outer s H vs Q E hr h => ?_)
  · obtain ⟨a, p, L, B, h, rfl, _⟩ := h
    rfl
  · obtain ⟨a, p, L, B, h, rfl, ha, ok, x, hB, k⟩ := h
    have h4 : Room 4 (A.deeper (envOfC "lot_before" (defScope s_bef) s.heap.objs.size f cdv)) := hr.mono (by decide)
    have h3 : Room 3 (A.deeper (envOfC "lot_before" (defScope s_bef) s.heap.objs.size f cdv)) := hr.mono (by decide)
    have h1 : Room 1 (A.deeper (envOfC "lot_before" (defScope s_bef) s.heap.objs.size f cdv)) := hr.mono (by decide)
    obtain ⟨fc, Fc, bc⟩ := S.ck
    refine ⟨_, (pss_cons (ps_if (pt_cmpR op_eq (pe_ix ix_tup (pv 0) pe_int (fun _ _ => rfl)) pe_str (nomark _)) (pss_one (ps_ret (pe_ifExp (pt_cmpR (op_inOwn Fc S.ch S.cf bc pass0 h1) (pe_ix ix_tup (pv 0) pe_int (fun _ _ => rfl)) (pv 1) (by rfl)) (pe_k0 Gw h3 (by rfl) pass0) (pe_k0 Ge h3 (by rfl) pass0)))) pss_nil)
        (pss_cons (ps_if (pt_cmpR op_eq (pe_ix ix_tup (pv 0) pe_int (fun _ _ => rfl)) pe_str (nomark _)) (pss_one (ps_ret (pe_k Gm h4 (by rfl) (passE (P := P) (w := w)) (pa_cons (pv 1) (pa_cons (pe_un un_neg (pe_ix ix_tup (pv 0) pe_int (fun _ _ => rfl))) pa_nil))))) pss_nil)
        (pss_cons (ps_if (pt_cmpR op_eq (pe_ix ix_tup (pv 0) pe_int (fun _ _ => rfl)) pe_str (nomark _)) (pss_one (ps_ret (pe_k Gt h4 (by rfl) (passE (P := P) (w := w)) (pa_cons (pv 1) pa_nil)))) pss_nil)
        (pss_one (ps_ret (pe_k Gl_ hr (by rfl) pass0 (pa_cons (pe_ix ix_tup (pv 0) pe_int (fun _ _ => rfl)) (pa_cons (pe_lc (own := [("rest", 2)]) (g := gName 2) rfl sc_bef.nd (pi_range1 (by rfl) N.range (pa_cons (pe_ix ix_tup (pv 0) pe_int (fun _ _ => rfl)) pa_nil)) (blkOk_by (N := N_bef) (sc := defScope s_bef) (by decide +kernel)) (fun _ _ _ _ _ => (pg_name (i := 2) sc_bef.nd rfl (by walk_at "lv"))) (fun _ _ _ _ _ => (pts_one (pt_cmpR (r := rInOwn (He.ga K "Lot") (spLotC (He.ga K "Lot")) E0) (op_inOwn Fc S.ch S.cf bc pass0 h1) (pv 2) (pv 1) (by rfl)))) (fun _ _ _ _ _ => (pv 2))) pa_nil)))))))), ?_⟩
    cases L with
    | set v =>
      refine ⟨_, rfl, a, _, _, _, rfl, rfl, SqT.of ha, rfl, rfl, _, rfl, iteS ?_⟩
      obtain ⟨dx, fs, b, hp, hb, q⟩ := x.in (n := v)
      refine ⟨_, rfl, a, _, _, _, rfl, rfl, SqT.of ha, rfl, _, rfl, p, dx, fs, rfl, hp, q _ ⟨b, rfl, _, rfl, ?_⟩⟩
      cases b with
      | true => exact iteT ⟨rfl, fun q H' s2 lq => k q H' s2 ((lo_lit (B := B + 80) true (by omega) lq).iff fun n => hb)⟩
      | false => exact iteF ⟨rfl, fun q H' s2 lq => k q H' s2 ((lo_lit (B := B + 80) false (by omega) lq).iff fun n => hb)⟩
    | add v =>
      refine ⟨_, rfl, a, _, _, _, rfl, rfl, SqT.of ha, rfl, rfl, _, rfl, iteN (by decide) ?_⟩
      refine ⟨_, rfl, a, _, _, _, rfl, rfl, SqT.of ha, rfl, rfl, _, rfl, iteS ?_⟩
      have ok : -20 ≤ v ∧ v ≤ 20 := ok
      refine ⟨_, rfl, _, rfl, a, _, _, _, rfl, rfl, SqT.of ha, rfl, _, rfl, lo_moved x hB (by omega) fun q H' s2 lq => k q H' s2 (lq.iff fun n => ?_)⟩
      show h (n - -v) ↔ h (n + v)
      rw [Int.sub_neg]
    | turn =>
      refine ⟨_, rfl, a, _, _, _, rfl, rfl, SqT.of ha, rfl, rfl, _, rfl, iteN (by decide) ?_⟩
      refine ⟨_, rfl, a, _, _, _, rfl, rfl, SqT.of ha, rfl, rfl, _, rfl, iteN (by decide) ?_⟩
      refine ⟨_, rfl, a, _, _, _, rfl, rfl, SqT.of ha, rfl, rfl, _, rfl, iteS ?_⟩
      exact ⟨_, rfl, lo_turned x hB fun q H' s2 lq => k q H' s2 (lq.iff fun n => Iff.rfl)⟩
    | mod m =>
      obtain ⟨m1, m6⟩ : 1 ≤ m ∧ m ≤ 6 := ok
      refine ⟨_, rfl, a, _, _, _, rfl, rfl, SqT.of ha, rfl, rfl, _, rfl, iteN (by decide) ?_⟩
      refine ⟨_, rfl, a, _, _, _, rfl, rfl, SqT.of ha, rfl, rfl, _, rfl, iteN (by decide) ?_⟩
      refine ⟨_, rfl, a, _, _, _, rfl, rfl, SqT.of ha, rfl, rfl, _, rfl, iteN (by decide) ?_⟩
      refine ⟨_, rfl, a, _, _, _, rfl, rfl, SqT.of ha, rfl, _, rfl, a, _, _, _, rfl, rfl, SqT.of ha, rfl, _, rfl, by omega, by omega, fun D hD => ?_⟩
      refine lc_it walk_range (fun i H3 => ∃ g : Int → Bool, (∀ r : Int, 0 ≤ r → r < i → (g r = true ↔ h r)) ∧ H3 D = some (.lst ((fil g 0 i).map V.int)) ∧ Same H H3) ⟨fun _ => true, fun r h0 h1 => by omega, upd_same, same_new (Same.refl H) hD⟩ (fun i H3 _ h => trivial) ?_ ?_
      · rintro i v H3 H4 hi ⟨g, hg, eD, s3⟩ ⟨rfl, rfl⟩
        have hi' : i < m := by omega
        obtain ⟨dx, fs, b, hp, hb, q⟩ := (x.same s3).in (n := 0 + (i : Int))
        refine ⟨rfl, _, rfl, _, rfl, p, dx, fs, rfl, hp, q _ ⟨b, rfl, _, rfl, ?_⟩⟩
        have e0 : (0 : Int) + (i : Int) = (i : Int) := by omega
        have gg : ∀ r : Int, 0 ≤ r → r < ((i + 1 : Nat) : Int) → ((if r = i then b else g r) = true ↔ h r) := fun r h0 h1 => by
          by_cases c : r = i
          · rw [if_pos c, c, hb, e0]
          · rw [if_neg c]
            exact hg r h0 (by omega)
        have gl : fil (fun r => if r = i then b else g r) 0 i = fil g 0 i := fil_cong fun r h0 h1 => by rw [if_neg (by omega)]
        cases b with
        | false =>
          refine iteF ⟨_, gg, ?_, s3⟩
          rw [fil_neg (by rw [if_pos e0]; exact Bool.false_ne_true), gl]
          exact eD
        | true =>
          refine iteT ⟨_, rfl, _, eD, smallB (by rw [List.length_map]; exact Nat.le_trans (fil_len _ _ _) (by omega)), _, gg, ?_, fun b o e => ?_⟩
          · rw [fil_pos (by rw [if_pos e0]), gl, List.map_append]
            exact upd_same
          · rw [upd_ne (ne_of_none e hD)]
            exact s3 b o e
      · rintro H3 ⟨g, hg, eD, s3⟩
        have em : (m : Int).toNat = m := by omega
        rw [em] at eD hg
        refine ⟨m, D, fil g 0 m, rfl, eD, ⟨m1, m6⟩, fil_nodup _ _ _, Nat.le_trans (fil_len _ _ _) m6, fun r hr => by have := (mem_fil.mp hr).1; omega, fun q H' s2 lq => k q H' (s3.trans s2) ((lq.wide (by omega)).iff fun n => ?_)⟩
        have n0 := Int.emod_nonneg n (by omega : (m : Int) ≠ 0)
        have n1 := Int.emod_lt_of_pos n (by omega : (0 : Int) < (m : Int))
        show n % (m : Int) ∈ fil g 0 m ↔ h (n % (m : Int))
        rw [mem_fil, ← hg _ n0 n1]
        exact ⟨fun z => z.2, fun z => ⟨⟨n0, by omega⟩, z⟩⟩
end
end My
set_option Elab.async false
set_option linter.all false
set_option maxRecDepth 100000
set_option maxHeartbeats 8000000
namespace My
open PySem PySem.Spec PyProof.Rows L2
local macro_rules | `(tactic| walk_at "lv") => `(tactic| first | exact Or.inl rfl | exact Or.inr rfl)
theorem HandC.nt {H : Hp} {p c u : Addr} {xs : List V} (h : HandC H p c) (e : H u = some (.tup xs)) : u ≠ p := fun z => by
  obtain ⟨_, _, _, _, hp, _⟩ := h
  rw [z, hp] at e
  cases e
theorem HandC.ni {H : Hp} {p c u : Addr} {xs : List Int} (h : HandC H p c) (e : H u = some (.lst (xs.map V.int))) : u ≠ p := fun z => by
  obtain ⟨_, _, _, _, hp, _⟩ := h
  rw [z, hp] at e
  cases xs with
  | nil => cases e
  | cons y ys => cases e
theorem But.mono_ne {p : Addr} {H H' : Hp} {b : Addr} {o : HO} (k : But p H H') (h : b ≠ p) (e : H b = some o) : H' b = some o := k b o h e
section
variable {P : Program} {w : World} {K : PySem.W.Frag} {mg : Str → Option Value} {base : Heap}
/-! ### _law_pick -/
def spPick : Sp := fun vs H Q _ => ∃ (p c t : Addr) (xs : List V), vs = [.ref p, .ref t] ∧ HandC H p c ∧ H t = some (.lst xs) ∧ t ≠ p ∧ (0 < xs.length ∧ xs.length ≤ 100) ∧ ∀ (i : Nat) (v : V) H', xs[i]? = some v → HandC H' p c → But p H H' → Q v H'
abbrev s_pick : Stmt := top 53
abbrev N_pick : List Str := ["_law_hand_here", "_law_things"]
theorem sc_pick : FnScope N_pick ["_law_hand_here", "_law_things"] (defScope s_pick) := ⟨rfl, rfl, rfl, by decide +kernel, rfl, by decide +kernel, by decide +kernel⟩
theorem log_le {n : Nat} (h : n ≤ 60000) : ((n : Int)).natAbs.log2 < 9000 := log_small h
theorem kp_pick (F : At K mg "_law_pick" s_pick) (N : Nb mg) (G : Keeps CX0 P w K mg base "_law_draw" 2 ["_law_hand_here", "_law_many"] spDraw) : Keeps CX0 P w K mg base "_law_pick" 3 ["_law_hand_here", "_law_things"] spPick := by
  refine keeps_of F sc_pick (fun _ _ _ _ _ _ us hl => match us, hl with | [_, _], _ => rfl) (fun vs H Q E h => ?_) (fun f cdv A outer s H vs Q E hr h => ?_)
  · obtain ⟨p, c, t, xs, rfl, _⟩ := h
    rfl
  · obtain ⟨p, c, t, xs, rfl, hh, ht, tp, ⟨l0, l1⟩, k⟩ := h
    refine ⟨_, (pss_one (ps_ret (pe_ix ix_list (pv 1) (pe_k G hr (by rfl) pass0 (pa_cons (pv 0) (pa_cons (pe_callB call_len_seq (by rfl) N.len (by decide +kernel) (pa_cons (pv 1) pa_nil)) pa_nil))) (fun _ _ => rfl)))), ?_⟩
    refine ⟨_, rfl, _, rfl, _, rfl, t, _, rfl, .inl (SqL.of ht), p, c, _, rfl, hh, ⟨by omega, log_small (by omega)⟩, fun r H1 r0 r1 h1 b1 => ?_⟩
    obtain ⟨v, e1, e2⟩ := atI_of (xs := xs) r0 r1
    exact ⟨t, _, _, _, rfl, rfl, SqL.of (b1 _ _ tp ht), e2, k _ _ _ e1 h1 b1⟩
/-! ### _law_value -/
def spVal : Sp := fun vs H Q _ => ∃ (p c : Addr), vs = [.ref p] ∧ HandC H p c ∧ ∀ (v : Int) H', -20 ≤ v → v ≤ 20 → HandC H' p c → But p H H' → Q (.int v) H'
abbrev s_val : Stmt := top 55
abbrev N_val : List Str := ["_law_hand_here"]
theorem sc_val : FnScope N_val ["_law_hand_here"] (defScope s_val) := ⟨rfl, rfl, rfl, by decide +kernel, rfl, by decide +kernel, by decide +kernel⟩
theorem kp_val (F : At K mg "_law_value" s_val) (G : Keeps CX0 P w K mg base "_law_draw" 2 ["_law_hand_here", "_law_many"] spDraw) : Keeps CX0 P w K mg base "_law_value" 3 ["_law_hand_here"] spVal := by
  refine keeps_of F sc_val (fun _ _ _ _ _ _ us hl => match us, hl with | [_], _ => rfl) (fun vs H Q E h => ?_) (fun f cdv A outer s H vs Q E hr h => ?_)
  · obtain ⟨p, c, rfl, _⟩ := h
    rfl
  · obtain ⟨p, c, rfl, hh, k⟩ := h
    refine ⟨_, (pss_cons (ps_if (pt_cmpR op_eq (pe_k G hr (by rfl) pass0 (pa_cons (pv 0) (pa_cons pe_int pa_nil))) pe_int (nomark _)) (pss_one (ps_ret (pe_op op_sub (pe_k G hr (by rfl) pass0 (pa_cons (pv 0) (pa_cons pe_int pa_nil))) pe_int))) pss_nil)
        (pss_one (ps_ret (pe_op op_sub (pe_k G hr (by rfl) pass0 (pa_cons (pv 0) (pa_cons pe_int pa_nil))) pe_int)))), ?_⟩
    refine ⟨_, rfl, p, c, 8, rfl, hh, ⟨by decide, by decide⟩, fun r H1 r0 r1 h1 b1 => ⟨rfl, _, rfl, ite2 (fun _ => ?_) (fun _ => ?_)⟩⟩
    · refine ⟨_, rfl, p, c, 41, rfl, h1, ⟨by decide, by decide⟩, fun r' H2 r0' r1' h2 b2 => ⟨_, _, rfl, rfl, k _ _ (by omega) (by omega) h2 (b1.trans b2)⟩⟩
    · refine ⟨_, rfl, p, c, 7, rfl, h1, ⟨by decide, by decide⟩, fun r' H2 r0' r1' h2 b2 => ⟨_, _, rfl, rfl, k _ _ (by omega) (by omega) h2 (b1.trans b2)⟩⟩
/-! ### _law_letter, _law_test -/
abbrev mods : List V := [.int 1, .int 2, .int 3, .int 4, .int 5, .int 6]
theorem mods_at {i : Nat} {v : V} (h : mods[i]? = some v) : ∃ m : Nat, v = .int m ∧ 1 ≤ m ∧ m ≤ 6 := by
  match i, h with
  | 0, h => cases h; exact ⟨1, rfl, by decide, by decide⟩
  | 1, h => cases h; exact ⟨2, rfl, by decide, by decide⟩
  | 2, h => cases h; exact ⟨3, rfl, by decide, by decide⟩
  | 3, h => cases h; exact ⟨4, rfl, by decide, by decide⟩
  | 4, h => cases h; exact ⟨5, rfl, by decide, by decide⟩
  | 5, h => cases h; exact ⟨6, rfl, by decide, by decide⟩
def spLet : Sp := fun vs H Q _ => ∃ (p c t : Addr) (m : Int), vs = [.ref p, .int m, .ref t] ∧ HandC H p c ∧ H t = some (.lst mods) ∧ t ≠ p ∧ (0 ≤ m ∧ m ≤ 20) ∧ ∀ a (L : Lt) H', L.Ok → H' a = some (.tup L.vs) → HandC H' p c → But p H H' → Q (.ref a) H'
abbrev s_let : Stmt := top 56
abbrev N_let : List Str := ["_law_hand_here", "_law_most", "_law_moduli", "_law_kind"]
theorem sc_let : FnScope N_let ["_law_hand_here", "_law_most", "_law_moduli"] (defScope s_let) := ⟨rfl, rfl, rfl, by decide +kernel, rfl, by decide +kernel, by decide +kernel⟩
theorem new_tup {p c a : Addr} {H H1 : Hp} {xs : List V} (h : HandC H1 p c) (b : But p H H1) (ha : H1 a = none) : upd H1 a (.tup xs) a = some (.tup xs) ∧ HandC (upd H1 a (.tup xs)) p c ∧ But p H (upd H1 a (.tup xs)) := by
  have s := same_new (o := .tup xs) (Same.refl H1) ha
  exact ⟨upd_same, h.same s, b.trans (But.of s)⟩
theorem kp_let (F : At K mg "_law_letter" s_let) (G : Keeps CX0 P w K mg base "_law_draw" 2 ["_law_hand_here", "_law_many"] spDraw) (Gp : Keeps CX0 P w K mg base "_law_pick" 3 ["_law_hand_here", "_law_things"] spPick) (Gv : Keeps CX0 P w K mg base "_law_value" 3 ["_law_hand_here"] spVal) :
    Keeps CX0 P w K mg base "_law_letter" 4 ["_law_hand_here", "_law_most", "_law_moduli"] spLet := by
  refine keeps_of F sc_let (fun _ _ _ _ _ _ us hl => match us, hl with | [_, _, _], _ => rfl) (fun vs H Q E h => ?_) (fun f cdv A outer s H vs Q E hr h => ?_)
  · obtain ⟨p, c, t, m, rfl, _⟩ := h
    rfl
  · obtain ⟨p, c, t, m, rfl, hh, ht, tp, mb, k⟩ := h
    have h2 : Room 2 (A.deeper (envOfC "_law_letter" (defScope s_let) s.heap.objs.size f cdv)) := hr.mono (by decide)
    refine ⟨_, (pss_cons (ps_set (i := 3) sc_let.nd rfl (by walk_at "lv") (pe_k G h2 (by rfl) pass0 (pa_cons (pv 0) (pa_cons pe_int pa_nil))))
        (pss_cons (ps_if (pt_cmpR op_lt (pv 3) pe_int (nomark _)) (pss_one (ps_ret (pe_tup (pa_cons pe_str (pa_cons (pe_op op_sub (pe_k G h2 (by rfl) pass0 (pa_cons (pv 0) (pa_cons (pe_op op_add (pe_op op_mul pe_int (pv 1)) pe_int) pa_nil))) (pv 1)) pa_nil))))) pss_nil)
        (pss_cons (ps_if (pt_cmpR op_eq (pv 3) pe_int (nomark _)) (pss_one (ps_ret (pe_tup (pa_cons pe_str (pa_cons (pe_k Gv hr (by rfl) pass0 (pa_cons (pv 0) pa_nil)) pa_nil))))) pss_nil)
        (pss_cons (ps_if (pt_cmpR op_eq (pv 3) pe_int (nomark _)) (pss_one (ps_ret (pe_tup (pa_cons pe_str pa_nil)))) pss_nil)
        (pss_cons (ps_if (pt_cmpR op_eq (pv 3) pe_int (nomark _)) (pss_one (ps_ret (pe_tup (pa_cons pe_str (pa_cons (pe_k Gp hr (by rfl) pass0 (pa_cons (pv 0) (pa_cons (pv 2) pa_nil))) pa_nil))))) pss_nil)
        (pss_one (ps_ret (pe_tup (pa_cons pe_str (pa_cons (pv 1) pa_nil)))))))))), ?_⟩
    refine ⟨_, rfl, p, c, 8, rfl, hh, ⟨by decide, by decide⟩, fun r H1 r0 r1 h1 b1 => ?_⟩
    refine ⟨_, rfl, _, _, rfl, rfl, _, rfl, ite2 (fun _ => ?_) (fun _ => ?_)⟩
    · refine ⟨_, rfl, _, rfl, _, _, rfl, rfl, .inl ⟨by decide, by decide⟩, _, _, rfl, rfl, p, c, _, rfl, h1, ⟨by omega, ?_⟩, fun r' H2 r0' r1' h2 b2 => ⟨_, rfl, _, _, rfl, rfl, (by show 2 ≤ sizeLine; decide), fun a ha => ?_⟩⟩
      · have e : (2 * m + 1 : Int) = ((2 * m + 1).toNat : Int) := by omega
        rw [e]
        exact log_small (by omega)
      · obtain ⟨q1, q2, q3⟩ := new_tup (xs := [V.str "add", V.int (r' - m)]) h2 (b1.trans b2) ha
        exact k a (.add (r' - m)) _ ⟨by omega, by omega⟩ q1 q2 q3
    refine ⟨_, rfl, rfl, _, rfl, ite2 (fun _ => ?_) (fun _ => ?_)⟩
    · refine ⟨_, rfl, p, c, rfl, h1, fun v H2 v0 v1 h2 b2 => ⟨(by show 2 ≤ sizeLine; decide), fun a ha => ?_⟩⟩
      obtain ⟨q1, q2, q3⟩ := new_tup (xs := [V.str "set", V.int v]) h2 (b1.trans b2) ha
      exact k a (.set v) _ ⟨v0, v1⟩ q1 q2 q3
    refine ⟨_, rfl, rfl, _, rfl, ite2 (fun _ => ?_) (fun _ => ?_)⟩
    · refine ⟨(by show 1 ≤ sizeLine; decide), fun a ha => ?_⟩
      obtain ⟨q1, q2, q3⟩ := new_tup (xs := [V.str "turn"]) h1 b1 ha
      exact k a .turn _ trivial q1 q2 q3
    refine ⟨_, rfl, rfl, _, rfl, ite2 (fun _ => ?_) (fun _ => ?_)⟩
    · refine ⟨_, rfl, _, rfl, p, c, t, mods, rfl, h1, b1 _ _ tp ht, tp, ⟨by decide, by decide⟩, fun i v H2 hv h2 b2 => ?_⟩
      obtain ⟨n, rfl, n1, n6⟩ := mods_at hv
      refine ⟨(by show 2 ≤ sizeLine; decide), fun a ha => ?_⟩
      obtain ⟨q1, q2, q3⟩ := new_tup (xs := [V.str "mod", V.int n]) h2 (b1.trans b2) ha
      exact k a (.mod n) _ ⟨n1, n6⟩ q1 q2 q3
    refine ⟨_, rfl, (by show 2 ≤ sizeLine; decide), fun a ha => ?_⟩
    obtain ⟨q1, q2, q3⟩ := new_tup (xs := [V.str "add", V.int m]) h1 b1 ha
    exact k a (.add m) _ ⟨by omega, by omega⟩ q1 q2 q3
def spTes : Sp := fun vs H Q _ => ∃ (p c t : Addr), vs = [.ref p, .ref t] ∧ HandC H p c ∧ H t = some (.lst mods) ∧ t ≠ p ∧ ∀ a (T : Ts) H', T.Ok → H' a = some (.tup T.vs) → HandC H' p c → But p H H' → Q (.ref a) H'
abbrev s_tes : Stmt := top 57
abbrev N_tes : List Str := ["_law_hand_here", "_law_moduli", "_law_kind", "_law_m"]
theorem sc_tes : FnScope N_tes ["_law_hand_here", "_law_moduli"] (defScope s_tes) := ⟨rfl, rfl, rfl, by decide +kernel, rfl, by decide +kernel, by decide +kernel⟩
theorem kp_tes (F : At K mg "_law_test" s_tes) (G : Keeps CX0 P w K mg base "_law_draw" 2 ["_law_hand_here", "_law_many"] spDraw) (Gp : Keeps CX0 P w K mg base "_law_pick" 3 ["_law_hand_here", "_law_things"] spPick) (Gv : Keeps CX0 P w K mg base "_law_value" 3 ["_law_hand_here"] spVal) :
    Keeps CX0 P w K mg base "_law_test" 4 ["_law_hand_here", "_law_moduli"] spTes := by
  refine keeps_of F sc_tes (fun _ _ _ _ _ _ us hl => match us, hl with | [_, _], _ => rfl) (fun vs H Q E h => ?_) (fun f cdv A outer s H vs Q E hr h => ?_)
  · obtain ⟨p, c, t, rfl, _⟩ := h
    rfl
  · obtain ⟨p, c, t, rfl, hh, ht, tp, k⟩ := h
    have h2 : Room 2 (A.deeper (envOfC "_law_test" (defScope s_tes) s.heap.objs.size f cdv)) := hr.mono (by decide)
    refine ⟨_, (pss_cons (ps_set (i := 2) sc_tes.nd rfl (by walk_at "lv") (pe_k G h2 (by rfl) pass0 (pa_cons (pv 0) (pa_cons pe_int pa_nil))))
        (pss_cons (ps_if (pt_cmpR op_eq (pv 2) pe_int (nomark _)) (pss_one (ps_ret (pe_tup (pa_cons pe_str (pa_cons (pe_k Gv hr (by rfl) pass0 (pa_cons (pv 0) pa_nil)) pa_nil))))) pss_nil)
        (pss_cons (ps_if (pt_cmpR op_eq (pv 2) pe_int (nomark _)) (pss_one (ps_ret (pe_tup (pa_cons pe_str (pa_cons (pe_k Gv hr (by rfl) pass0 (pa_cons (pv 0) pa_nil)) pa_nil))))) pss_nil)
        (pss_cons (ps_set (i := 3) sc_tes.nd rfl (by walk_at "lv") (pe_k Gp hr (by rfl) pass0 (pa_cons (pv 0) (pa_cons (pv 1) pa_nil))))
        (pss_one (ps_ret (pe_tup (pa_cons pe_str (pa_cons (pv 3) (pa_cons (pe_k G h2 (by rfl) pass0 (pa_cons (pv 0) (pa_cons (pv 3) pa_nil))) pa_nil)))))))))), ?_⟩
    refine ⟨_, rfl, p, c, 4, rfl, hh, ⟨by decide, by decide⟩, fun r H1 r0 r1 h1 b1 => ?_⟩
    refine ⟨_, rfl, rfl, _, rfl, ite2 (fun _ => ?_) (fun _ => ?_)⟩
    · refine ⟨_, rfl, p, c, rfl, h1, fun v H2 v0 v1 h2 b2 => ⟨(by show 2 ≤ sizeLine; decide), fun a ha => ?_⟩⟩
      obtain ⟨q1, q2, q3⟩ := new_tup (xs := [V.str "below", V.int v]) h2 (b1.trans b2) ha
      exact k a (.below v) _ ⟨v0, v1⟩ q1 q2 q3
    refine ⟨_, rfl, rfl, _, rfl, ite2 (fun _ => ?_) (fun _ => ?_)⟩
    · refine ⟨_, rfl, p, c, rfl, h1, fun v H2 v0 v1 h2 b2 => ⟨(by show 2 ≤ sizeLine; decide), fun a ha => ?_⟩⟩
      obtain ⟨q1, q2, q3⟩ := new_tup (xs := [V.str "is", V.int v]) h2 (b1.trans b2) ha
      exact k a (.is v) _ ⟨v0, v1⟩ q1 q2 q3
    refine ⟨_, rfl, _, rfl, p, c, t, mods, rfl, h1, b1 _ _ tp ht, tp, ⟨by decide, by decide⟩, fun i v H2 hv h2 b2 => ?_⟩
    obtain ⟨n, rfl, n1, n6⟩ := mods_at hv
    refine ⟨_, rfl, _, rfl, _, rfl, p, c, _, rfl, h2, ⟨by omega, log_small (by omega)⟩, fun r' H3 r0' r1' h3 b3 => ⟨(by show 3 ≤ sizeLine; decide), fun a ha => ?_⟩⟩
    obtain ⟨q1, q2, q3⟩ := new_tup (xs := [V.str "rest", V.int n, V.int r']) h3 ((b1.trans b2).trans b3) ha
    exact k a (.rest n r') _ ⟨⟨n1, n6⟩, r0', r1'⟩ q1 q2 q3
end
end My
set_option Elab.async false
set_option linter.all false
set_option maxRecDepth 100000
set_option maxHeartbeats 8000000
namespace My
open PySem PySem.Spec PyProof.Rows L2
local macro_rules | `(tactic| walk_at "lv") => `(tactic| first | exact Or.inl rfl | exact Or.inr rfl)
/-- a six of a lot, as the law draws it -/
structure SixD (lo hi : Int) (xs : List Int) (m : Nat) (us ds : List Int) : Prop where
  l0 : -40 ≤ lo ∧ lo ≤ 40
  sz : lo ≤ hi + 1
  h1 : hi ≤ 79
  i : ∀ n ∈ xs, lo ≤ n ∧ n ≤ hi
  u : ∀ r ∈ us, 0 ≤ r ∧ r < m
  d : ∀ r ∈ ds, 0 ≤ r ∧ r < m
  nx : xs.Nodup
  nu : us.Nodup
  nd : ds.Nodup
  m0 : 1 ≤ m ∧ m ≤ 60
  lx : xs.length ≤ 200
  lu : us.length ≤ 200
  ld : ds.length ≤ 200
def SixAt (H : Hp) (t : Addr) (lo hi : Int) (xs : List Int) (m : Nat) (us ds : List Int) : Prop := ∃ a b c, H t = some (.tup [.int lo, .int hi, .ref a, .int m, .ref b, .ref c]) ∧ H a = some (.lst (xs.map V.int)) ∧ H b = some (.lst (us.map V.int)) ∧ H c = some (.lst (ds.map V.int))
theorem SixAt.same {H H' : Hp} {t : Addr} {lo hi : Int} {xs us ds : List Int} {m : Nat} (s : Same H H') (h : SixAt H t lo hi xs m us ds) : SixAt H' t lo hi xs m us ds := by
  obtain ⟨a, b, c, h1, h2, h3, h4⟩ := h
  exact ⟨a, b, c, s _ _ h1, s _ _ h2, s _ _ h3, s _ _ h4⟩
theorem SixAt.but {H H' : Hp} {p c t : Addr} {lo hi : Int} {xs us ds : List Int} {m : Nat} (hh : HandC H p c) (k : But p H H') (h : SixAt H t lo hi xs m us ds) : SixAt H' t lo hi xs m us ds := by
  obtain ⟨a, b, d, h1, h2, h3, h4⟩ := h
  exact ⟨a, b, d, k _ _ (hh.nt h1) h1, k _ _ (hh.ni h2) h2, k _ _ (hh.ni h3) h3, k _ _ (hh.ni h4) h4⟩
theorem Lo.but {K : PySem.W.Frag} {H H' : Hp} {p c q : Addr} {B : Int} {h : Int → Prop} (hh : HandC H p c) (k : But p H H') (x : Lo K H q B h) : Lo K H' q B h := by
  obtain ⟨T, lo, hi, d, a, b, f, l, z⟩ := x
  exact ⟨T, lo, hi, d, a, b, f, l.but hh k, z⟩
/-- a row being drawn -/
def SubSt (p c D : Addr) (H2 : Hp) (a : Int) (i : Nat) (H3 : Hp) : Prop := ∃ xs : List Int, H3 D = some (.lst (xs.map V.int)) ∧ xs.Nodup ∧ (∀ n ∈ xs, a ≤ n ∧ n < a + (i : Int)) ∧ xs.length ≤ i ∧ HandC H3 p c ∧ But p H2 H3
theorem SubSt.init {p c D : Addr} {H2 : Hp} {a : Int} (h : HandC H2 p c) (hD : H2 D = none) : SubSt p c D H2 a 0 (upd H2 D (.lst [])) :=
  ⟨[], upd_same, List.nodup_nil, (fun _ z => nomatch z), Nat.le_refl 0, h.same (same_new (Same.refl H2) hD), But.of (same_new (Same.refl H2) hD)⟩
theorem hand_ne {p c D : Addr} {H2 : Hp} (h : HandC H2 p c) (hD : H2 D = none) : D ≠ p := fun z => by
  obtain ⟨_, _, _, _, hp, _⟩ := h
  rw [← z, hD] at hp
  cases hp
theorem SubSt.keep {p c D : Addr} {H2 H3 H4 : Hp} {a : Int} {i : Nat} (h2 : HandC H2 p c) (hD : H2 D = none) (s : SubSt p c D H2 a i H3) (h4 : HandC H4 p c) (b : But p H3 H4) : SubSt p c D H2 a (i + 1) H4 := by
  obtain ⟨xs, e, nd, hb, hl, _, b3⟩ := s
  exact ⟨xs, b _ _ (hand_ne h2 hD) e, nd, fun n hn => by have := hb n hn; omega, by omega, h4, b3.trans b⟩
theorem SubSt.push {p c D : Addr} {H2 H3 H4 : Hp} {a : Int} {i : Nat} (h2 : HandC H2 p c) (hD : H2 D = none) (s : SubSt p c D H2 a i H3) (h4 : HandC H4 p c) (b : But p H3 H4) (hi : i ≤ 1000) : ∃ acc, H4 D = some (.lst acc) ∧ acc.length < sizeLine ∧ SubSt p c D H2 a (i + 1) (upd H4 D (.lst (acc ++ [V.int (a + (i : Int))]))) := by
  obtain ⟨xs, e, nd, hb, hl, h3, b3⟩ := s
  have Dp := hand_ne h2 hD
  have e4 := b _ _ Dp e
  obtain ⟨_, _, _, _, hp4, hc4, _⟩ := id h4
  have Dc : c ≠ D := fun z => by
    obtain ⟨_, _, _, _, _, hc2, _⟩ := h2
    rw [z, hD] at hc2
    cases hc2
  refine ⟨_, e4, smallB (by rw [List.length_map]; omega), xs ++ [a + (i : Int)], ?_, ?_, fun n hn => ?_, by rw [List.length_append, List.length_singleton]; omega, h4.upd Dp.symm Dc, fun x o hx ex => ?_⟩
  · rw [List.map_append]
    exact upd_same
  · refine List.nodup_append.mpr ⟨nd, by simp, fun x hx y hy => ?_⟩
    rw [List.mem_singleton.mp hy]
    have := hb x hx
    omega
  · rcases List.mem_append.mp hn with z | z
    · have := hb n z
      omega
    · rw [List.mem_singleton.mp z]; omega
  · rw [upd_ne (ne_of_none ex hD)]
    exact (b3.trans b) x o hx ex
section
variable {P : Program} {w : World} {K : PySem.W.Frag} {mg : Str → Option Value} {base : Heap}
/-! ### _law_six -/
def spSix : Sp := fun vs H Q _ => ∃ (p c : Addr) (mo : Nat) (wi : Int), vs = [.ref p, .int mo, .int wi] ∧ HandC H p c ∧ (1 ≤ mo ∧ mo ≤ 60) ∧ (0 ≤ wi ∧ wi ≤ 40) ∧ ∀ t lo hi xs m us ds H', SixD lo hi xs m us ds → SixAt H' t lo hi xs m us ds → HandC H' p c → But p H H' → Q (.ref t) H'
abbrev s_six : Stmt := top 60
abbrev N_six : List Str := ["_law_hand_here", "_law_most", "_law_wide", "_law_low", "_law_high", "_law_inside", "_law_modulus", "_law_share", "_law_ups", "_law_downs", "_law_n"]
theorem sc_six : FnScope N_six ["_law_hand_here", "_law_most", "_law_wide"] (defScope s_six) := ⟨rfl, rfl, rfl, by decide +kernel, rfl, by decide +kernel, by decide +kernel⟩
theorem int_nat {a : Int} (h : 0 ≤ a) : ∃ n : Nat, a = n := ⟨a.toNat, by omega⟩
theorem log_int {a : Int} (h0 : 0 ≤ a) (h1 : a ≤ 60000) : a.natAbs.log2 < 9000 := by
  obtain ⟨n, rfl⟩ := int_nat h0
  exact log_small (by omega)
theorem kp_six (F : At K mg "_law_six" s_six) (N : Nb mg) (G : Keeps CX0 P w K mg base "_law_draw" 2 ["_law_hand_here", "_law_many"] spDraw) : Keeps CX0 P w K mg base "_law_six" 3 ["_law_hand_here", "_law_most", "_law_wide"] spSix := by
  refine keeps_of F sc_six (fun _ _ _ _ _ _ us hl => match us, hl with | [_, _, _], _ => rfl) (fun vs H Q E h => ?_) (fun f cdv A outer s H vs Q E hr h => ?_)
  · obtain ⟨p, c, mo, wi, rfl, _⟩ := h
    rfl
  · obtain ⟨p, c, mo, wi, rfl, hh, mob, wib, k⟩ := h
    -- from the two rows of rests on
    obtain ⟨t5, d5, tail5⟩ : ∃ tl, PSs (cxOf CX0 P w K mg base N_six "_law_six" (defScope s_six) f cdv A outer s H E).nox ((defBody s_six).drop 5) tl ∧ ∀ (H1 : Hp) (lo hi sh : Int) (m : Nat) (xs : List Int) (a : Addr), HandC H1 p c → But p H H1 → H1 a = some (.lst (xs.map V.int)) → (-40 ≤ lo ∧ lo ≤ 40) → lo ≤ hi + 1 → hi ≤ 79 → (∀ n ∈ xs, lo ≤ n ∧ n ≤ hi) → xs.Nodup → xs.length ≤ 200 → (1 ≤ m ∧ m ≤ 60) →
        tl { nx := fun _ H' => Q .non H', rt := Q } [some (V.ref p), some (V.int mo), some (V.int wi), some (V.int lo), some (V.int hi), some (V.ref a), some (V.int m), some (V.int sh), none, none, none] H1 := by
      refine ⟨_, (pss_cons (ps_setLc (i := 8) (own := [("_law_n", 10)]) (g := gName 10) rfl sc_six.nd rfl rfl (sw_true rfl rfl rfl (by decide +kernel)) (pi_range1 (by rfl) N.range (pa_cons (pv 6) pa_nil)) (blkOk_by (N := N_six) (sc := defScope s_six) (by decide +kernel)) (fun _ _ _ _ _ => (pg_name (i := 10) sc_six.nd rfl (by walk_at "lv"))) (fun _ _ _ _ _ => (pts_one (pt_cmpR op_lt (pe_op op_mod (pe_callTy call_int1 (by rfl) N.int boot_int (pa_cons (pe_k G hr (by rfl) pass0 (pa_cons (pv 0) (pa_cons pe_int pa_nil))) pa_nil)) pe_int) (pv 7) (nomark _)))) (fun _ _ _ _ _ => (pv 10)))
        (pss_cons (ps_setLc (i := 9) (own := [("_law_n", 10)]) (g := gName 10) rfl sc_six.nd rfl rfl (sw_true rfl rfl rfl (by decide +kernel)) (pi_range1 (by rfl) N.range (pa_cons (pv 6) pa_nil)) (blkOk_by (N := N_six) (sc := defScope s_six) (by decide +kernel)) (fun _ _ _ _ _ => (pg_name (i := 10) sc_six.nd rfl (by walk_at "lv"))) (fun _ _ _ _ _ => (pts_one (pt_cmpR op_lt (pe_op op_mod (pe_callTy call_int1 (by rfl) N.int boot_int (pa_cons (pe_k G hr (by rfl) pass0 (pa_cons (pv 0) (pa_cons pe_int pa_nil))) pa_nil)) pe_int) (pv 7) (nomark _)))) (fun _ _ _ _ _ => (pv 10)))
        (pss_cons (ps_if (pt_cmpR op_eq (pe_k G hr (by rfl) pass0 (pa_cons (pv 0) (pa_cons pe_int pa_nil))) pe_int (nomark _)) (pss_one (ps_set (i := 8) sc_six.nd rfl (by walk_at "lv") (pe_lst pa_nil))) pss_nil)
        (pss_cons (ps_if (pt_cmpR op_eq (pe_k G hr (by rfl) pass0 (pa_cons (pv 0) (pa_cons pe_int pa_nil))) pe_int (nomark _)) (pss_one (ps_set (i := 9) sc_six.nd rfl (by walk_at "lv") (pe_lst pa_nil))) pss_nil)
        (pss_one (ps_ret (pe_tup (pa_cons (pv 3) (pa_cons (pv 4) (pa_cons (pv 5) (pa_cons (pv 6) (pa_cons (pv 8) (pa_cons (pv 9) pa_nil))))))))))))), ?_⟩
      intro H1 lo hi sh m xs a h1 b1 ea l0 sz l79 hx nx lx m0
      dsimp only [tSeq, tAsg]
      have em : ((m : Int)).toNat = m := by omega
      -- the end
      have fin : ∀ (H4 : Hp) (b d : Addr) (us ds : List Int), HandC H4 p c → But p H H4 → H4 a = some (.lst (xs.map V.int)) → H4 b = some (.lst (us.map V.int)) → H4 d = some (.lst (ds.map V.int)) → us.Nodup → (∀ n ∈ us, 0 ≤ n ∧ n < m) → us.length ≤ 200 → ds.Nodup → (∀ n ∈ ds, 0 ≤ n ∧ n < m) → ds.length ≤ 200 →
          tRet (tTup (tCons (tVar 3) (tCons (tVar 4) (tCons (tVar 5) (tCons (tVar 6) (tCons (tVar 8) (tCons (tVar 9) tNil))))))) { nx := fun _ H' => Q .non H', rt := Q } [some (V.ref p), some (V.int mo), some (V.int wi), some (V.int lo), some (V.int hi), some (V.ref a), some (V.int m), some (V.int sh), some (V.ref b), some (V.ref d), none] H4 := by
        intro H4 b d us ds h4 b4 ea eb ed nu hu lu nd hd ld
        refine ⟨_, rfl, _, rfl, _, rfl, _, rfl, _, rfl, _, rfl, (by show 6 ≤ sizeLine; decide), fun t ht => ?_⟩
        obtain ⟨q1, q2, q3⟩ := new_tup (xs := [V.int lo, V.int hi, V.ref a, V.int m, V.ref b, V.ref d]) h4 b4 ht
        have s4 := same_new (o := .tup [V.int lo, V.int hi, V.ref a, V.int m, V.ref b, V.ref d]) (Same.refl H4) ht
        exact k t lo hi xs m us ds _ ⟨l0, sz, l79, hx, hu, hd, nx, nu, nd, m0, lx, lu, ld⟩ ⟨a, b, d, q1, s4 _ _ ea, s4 _ _ eb, s4 _ _ ed⟩ q2 q3
      refine ⟨_, rfl, _, rfl, by omega, by omega, fun D hD => ?_⟩
      refine lc_it walk_range (SubSt p c D H1 0) (SubSt.init h1 hD) (fun i H3 _ _ => trivial) ?_ ?_
      · rintro i v H2 H3 hi' st ⟨rfl, rfl⟩
        obtain ⟨_, _, _, _, _, h2, _⟩ := id st
        refine ⟨rfl, _, rfl, p, c, 4, rfl, h2, ⟨by decide, by decide⟩, fun r H4 _ _ h4 b4 => .inl ⟨_, rfl, _, _, rfl, rfl, (by show (0 : Int) < _; decide), _, rfl, _, _, rfl, rfl, _, rfl, ite2 (fun _ => ⟨_, rfl, st.push h1 hD h4 b4 (by omega)⟩) (fun _ => st.keep h1 hD h4 b4)⟩⟩
      · rintro H2 ⟨us, eb, nu, hu, lu, h2, b2⟩
        rw [em] at hu lu
        have ea2 := b2 _ _ (h1.ni ea) ea
        refine ⟨_, rfl, _, rfl, by omega, by omega, fun D2 hD2 => ?_⟩
        refine lc_it walk_range (SubSt p c D2 H2 0) (SubSt.init h2 hD2) (fun i H3 _ _ => trivial) ?_ ?_
        · rintro i v H3 H4 hi' st ⟨rfl, rfl⟩
          obtain ⟨_, _, _, _, _, h3, _⟩ := id st
          refine ⟨rfl, _, rfl, p, c, 4, rfl, h3, ⟨by decide, by decide⟩, fun r H4 _ _ h4 b4 => .inl ⟨_, rfl, _, _, rfl, rfl, (by show (0 : Int) < _; decide), _, rfl, _, _, rfl, rfl, _, rfl, ite2 (fun _ => ⟨_, rfl, st.push h2 hD2 h4 b4 (by omega)⟩) (fun _ => st.keep h2 hD2 h4 b4)⟩⟩
        · rintro H3 ⟨ds, ed, nd, hd, ld, h3, b3⟩
          rw [em] at hd ld
          have ea3 := b3 _ _ (h2.ni ea2) ea2
          have eb3 := b3 _ _ (h2.ni eb) eb
          have b13 := (b1.trans b2).trans b3
          refine ⟨_, rfl, p, c, 4, rfl, h3, ⟨by decide, by decide⟩, fun r H4 _ _ h4 b4 => ⟨rfl, _, rfl, ite2 (fun _ => ?_) (fun _ => ?_)⟩⟩
          · have ea4 := b4 _ _ (h3.ni ea3) ea3
            have ed4 := b4 _ _ (h3.ni ed) ed
            refine ⟨(by show 0 ≤ sizeLine; decide), fun e he => ?_⟩
            have s4 := same_new (o := .lst []) (Same.refl H4) he
            refine ⟨_, rfl, p, c, 4, rfl, h4.same s4, ⟨by decide, by decide⟩, fun r H5 _ _ h5 b5 => ⟨rfl, _, rfl, ite2 (fun _ => ?_) (fun _ => ?_)⟩⟩
            · refine ⟨(by show 0 ≤ sizeLine; decide), fun e2 he2 => ?_⟩
              have s5 := same_new (o := .lst []) (Same.refl H5) he2
              have h4s := h4.same s4
              have u1 : upd H4 e (.lst []) e = some (.lst (([] : List Int).map V.int)) := upd_same
              exact fin _ e e2 [] [] (h5.same s5) ((((b13.trans b4).trans (But.of s4)).trans b5).trans (But.of s5)) (s5 _ _ (b5 _ _ (h4s.ni (s4 _ _ ea4)) (s4 _ _ ea4))) (s5 _ _ (b5 _ _ (h4s.ni u1) u1)) upd_same List.nodup_nil (fun _ z => nomatch z) (Nat.zero_le _) List.nodup_nil (fun _ z => nomatch z) (Nat.zero_le _)
            · have h4s := h4.same s4
              have u1 : upd H4 e (.lst []) e = some (.lst (([] : List Int).map V.int)) := upd_same
              exact fin _ e D2 [] ds h5 (((b13.trans b4).trans (But.of s4)).trans b5) (b5 _ _ (h4s.ni (s4 _ _ ea4)) (s4 _ _ ea4)) (b5 _ _ (h4s.ni u1) u1) (b5 _ _ (h4s.ni (s4 _ _ ed4)) (s4 _ _ ed4)) List.nodup_nil (fun _ z => nomatch z) (Nat.zero_le _) nd (fun n z => by have := hd n z; omega) (by omega)
          · have ea4 := b4 _ _ (h3.ni ea3) ea3
            have eb4 := b4 _ _ (h3.ni eb3) eb3
            have ed4 := b4 _ _ (h3.ni ed) ed
            refine ⟨_, rfl, p, c, 4, rfl, h4, ⟨by decide, by decide⟩, fun r H5 _ _ h5 b5 => ⟨rfl, _, rfl, ite2 (fun _ => ?_) (fun _ => ?_)⟩⟩
            · refine ⟨(by show 0 ≤ sizeLine; decide), fun e2 he2 => ?_⟩
              have s5 := same_new (o := .lst []) (Same.refl H5) he2
              exact fin _ D e2 us [] (h5.same s5) (((b13.trans b4).trans b5).trans (But.of s5)) (s5 _ _ (b5 _ _ (h4.ni ea4) ea4)) (s5 _ _ (b5 _ _ (h4.ni eb4) eb4)) upd_same nu (fun n z => by have := hu n z; omega) (by omega) List.nodup_nil (fun _ z => nomatch z) (Nat.zero_le _)
            · exact fin _ D D2 us ds h5 ((b13.trans b4).trans b5) (b5 _ _ (h4.ni ea4) ea4) (b5 _ _ (h4.ni eb4) eb4) (b5 _ _ (h4.ni ed4) ed4) nu (fun n z => by have := hu n z; omega) (by omega) nd (fun n z => by have := hd n z; omega) (by omega)
    refine ⟨_, (pss_cons (ps_set (i := 3) sc_six.nd rfl (by walk_at "lv") (pe_op op_sub (pe_k G hr (by rfl) pass0 (pa_cons (pv 0) (pa_cons (pe_op op_add (pe_op op_mul pe_int (pv 2)) pe_int) pa_nil))) (pv 2)))
        (pss_cons (ps_set (i := 4) sc_six.nd rfl (by walk_at "lv") (pe_op op_add (pe_op op_sub (pv 3) pe_int) (pe_k G hr (by rfl) pass0 (pa_cons (pv 0) (pa_cons (pe_op op_add (pv 2) pe_int) pa_nil)))))
        (pss_cons (ps_setLc (i := 5) (own := [("_law_n", 10)]) (g := gName 10) rfl sc_six.nd rfl rfl (sw_true rfl rfl rfl (by decide +kernel)) (pi_range2 (by rfl) N.range (pa_cons (pv 3) (pa_cons (pe_op op_add (pv 4) pe_int) pa_nil))) (blkOk_by (N := N_six) (sc := defScope s_six) (by decide +kernel)) (fun _ _ _ _ _ => (pg_name (i := 10) sc_six.nd rfl (by walk_at "lv"))) (fun _ _ _ _ _ => (pts_one (pt_cmpR op_eq (pe_k G hr (by rfl) pass0 (pa_cons (pv 0) (pa_cons pe_int pa_nil))) pe_int (nomark _)))) (fun _ _ _ _ _ => (pv 10)))
        (pss_cons (ps_set (i := 6) sc_six.nd rfl (by walk_at "lv") (pe_op op_add pe_int (pe_k G hr (by rfl) pass0 (pa_cons (pv 0) (pa_cons (pv 1) pa_nil)))))
        (pss_cons (ps_set (i := 7) sc_six.nd rfl (by walk_at "lv") (pe_op op_add pe_int (pe_k G hr (by rfl) pass0 (pa_cons (pv 0) (pa_cons pe_int pa_nil)))))
        d5))))), ?_⟩
    refine ⟨_, rfl, _, rfl, _, _, rfl, rfl, .inl ⟨by decide, by decide⟩, _, _, rfl, rfl, p, c, _, rfl, hh, ⟨by omega, log_int (by omega) (by omega)⟩, fun r H1 r0 r1 h1 b1 => ⟨_, rfl, _, _, rfl, rfl, ?_⟩⟩
    refine ⟨_, rfl, _, _, rfl, rfl, _, rfl, _, rfl, _, _, rfl, rfl, p, c, _, rfl, h1, ⟨by omega, log_int (by omega) (by omega)⟩, fun q H2 q0 q1 h2 b2 => ⟨_, _, rfl, rfl, ?_⟩⟩
    refine ⟨_, rfl, _, rfl, _, _, rfl, rfl, _, _, rfl, ⟨by omega, by omega, by omega, by omega⟩, fun D hD => ?_⟩
    refine lc_it walk_range (SubSt p c D H2 (r - wi)) (SubSt.init h2 hD) (fun i H3 _ _ => trivial) ?_ ?_
    · rintro i v H3 H4 hi' st ⟨rfl, rfl⟩
      obtain ⟨_, _, _, _, _, h3, _⟩ := id st
      refine ⟨rfl, _, rfl, p, c, 2, rfl, h3, ⟨by decide, by decide⟩, fun r' H4 _ _ h4 b4 => ⟨rfl, _, rfl, ite2 (fun _ => ⟨_, rfl, st.push h2 hD h4 b4 (by omega)⟩) (fun _ => st.keep h2 hD h4 b4)⟩⟩
    · rintro H3 ⟨xs, ea, nx, hx, lx, h3, b3⟩
      refine ⟨_, rfl, _, rfl, p, c, mo, rfl, h3, ⟨by omega, log_small (by omega)⟩, fun m' H4 m0 m1 h4 b4 => ⟨_, _, rfl, rfl, ?_⟩⟩
      refine ⟨_, rfl, p, c, 3, rfl, h4, ⟨by decide, by decide⟩, fun sh H5 _ _ h5 b5 => ⟨_, _, rfl, rfl, ?_⟩⟩
      obtain ⟨m, hm⟩ := int_nat (a := 1 + m') (by omega)
      show t5 _ [some (V.ref p), some (V.int mo), some (V.int wi), some (V.int (r - wi)), some (V.int (r - wi - 1 + q)), some (V.ref D), some (V.int (1 + m')), some (V.int (1 + sh)), none, none, none] H5
      rw [hm]
      exact tail5 H5 _ _ _ m xs D h5 ((((b1.trans b2).trans b3).trans b4).trans b5) (b5 _ _ (h4.ni (b4 _ _ (h3.ni ea) ea)) (b4 _ _ (h3.ni ea) ea)) ⟨by omega, by omega⟩ (by omega) (by omega) (fun n hn => by have := hx n hn; omega) nx (by omega) ⟨by omega, by omega⟩
end
end My
set_option Elab.async false
set_option linter.all false
set_option maxRecDepth 100000
set_option maxHeartbeats 8000000
namespace My
open PySem PySem.Spec PyProof.Rows L2
local macro_rules | `(tactic| walk_at "lv") => `(tactic| first | exact Or.inl rfl | exact Or.inr rfl)
def Lt.sm : Lt → Bool
  | .set _ => true
  | .mod _ => true
  | _ => false
def Lt.k : Lt → Nat
  | .mod m => m
  | _ => 1
def Lt.w : Lt → Str
  | .set _ => "set"
  | .add _ => "add"
  | .turn => "turn"
  | .mod _ => "mod"
theorem Lt.at0 (L : Lt) : atI L.vs 0 = some (V.str L.w) := by cases L <;> rfl
theorem Lt.inV (L : Lt) : L2.inV (V.str L.w) [V.str "set", V.str "mod"] = L.sm := by
  have h1 : L2.inV (V.str "set") [V.str "set", V.str "mod"] = true := by decide +kernel
  have h2 : L2.inV (V.str "add") [V.str "set", V.str "mod"] = false := by decide +kernel
  have h3 : L2.inV (V.str "turn") [V.str "set", V.str "mod"] = false := by decide +kernel
  have h4 : L2.inV (V.str "mod") [V.str "set", V.str "mod"] = true := by decide +kernel
  cases L with
  | set v => exact h1
  | add v => exact h2
  | turn => exact h3
  | mod m => exact h4
theorem irow_len (a : Int) (n : Nat) : (irow a n).length = n := by
  unfold irow; rw [List.length_map, List.length_range]
theorem Lt.deed_mod {L : Lt} (h : L.sm = true) {x y : Int} (e : x % (L.k : Int) = y % (L.k : Int)) : L.deed x = L.deed y := by
  cases L with
  | set v => rfl
  | mod m => exact e
  | add v => cases h
  | turn => cases h
theorem Lt.k_le {L : Lt} (ok : L.Ok) : 1 ≤ L.k ∧ L.k ≤ 6 := by
  cases L with
  | mod m => exact ok
  | set v => exact ⟨Nat.le_refl 1, (by decide : 1 ≤ 6)⟩
  | add v => exact ⟨Nat.le_refl 1, (by decide : 1 ≤ 6)⟩
  | turn => exact ⟨Nat.le_refl 1, (by decide : 1 ≤ 6)⟩
/-- what a letter makes of a lot is made of its numbers in a window -/
theorem window {lo hi wi : Int} {xs us ds : List Int} {m : Nat} (D : SixD lo hi xs m us ds) {L : Lt} (ok : L.Ok) (sm : L.sm = true) (w0 : 0 ≤ wi - 6 * m) (w1 : -(wi - 6 * m) ≤ lo) (w2 : hi ≤ wi - 6 * m) (n : Int) :
    (∃ y, -wi ≤ y ∧ y ≤ wi ∧ lotHas lo hi xs m us ds y = true ∧ L.deed y = n) ↔ ∃ y, lotHas lo hi xs m us ds y = true ∧ L.deed y = n := by
  constructor
  · rintro ⟨y, _, _, h1, h2⟩
    exact ⟨y, h1, h2⟩
  · rintro ⟨y, h1, h2⟩
    have kk := Lt.k_le ok
    have hL : m * L.k ≤ m * 6 := Nat.mul_le_mul_left m kk.2
    have hL0 : 0 < m * L.k := Nat.mul_pos D.m0.1 kk.1
    have q := near_one (f := fun y => lotHas lo hi xs m us ds y && decide (L.deed y = n)) (B := wi - 6 * m) (L := m * L.k) hL0 w0 (fun x z e c => by
      have e1 := lot_round D.sz (Nat.dvd_mul_right m L.k) e (by omega : (hi < x ∧ hi < z) ∨ (x < lo ∧ z < lo)) (xs := xs) (us := us) (ds := ds)
      have e2 : x % (L.k : Int) = z % (L.k : Int) := by
        rw [← Int.emod_emod_of_dvd x (Int.ofNat_dvd.mpr (Nat.dvd_mul_left L.k m)), ← Int.emod_emod_of_dvd z (Int.ofNat_dvd.mpr (Nat.dvd_mul_left L.k m)), e]
      show (_ && _) = (_ && _)
      rw [e1, Lt.deed_mod sm e2]) (n := y) (by show (_ && _) = true; rw [h1, decide_eq_true h2]; rfl)
    obtain ⟨z, z1, z2, z3⟩ := q
    obtain ⟨z3, z4⟩ := Bool.and_eq_true_iff.mp z3
    exact ⟨z, by omega, by omega, z3, of_decide_eq_true z4⟩
section
variable {P : Program} {w : World} {K : PySem.W.Frag} {mg : Str → Option Value} {base : Heap}
/-! ### _law_in -/
def spInS : Sp := fun vs H Q _ => ∃ (t : Addr) (lo hi : Int) (xs : List Int) (m : Nat) (us ds : List Int) (n : Int), vs = [.ref t, .int n] ∧ SixAt H t lo hi xs m us ds ∧ SixD lo hi xs m us ds ∧ Q (.bl (lotHas lo hi xs m us ds n)) H
abbrev s_in : Stmt := top 61
abbrev N_in : List Str := ["_law_six_here", "_law_number"]
theorem sc_in : FnScope N_in ["_law_six_here", "_law_number"] (defScope s_in) := ⟨rfl, rfl, rfl, by decide +kernel, rfl, by decide +kernel, by decide +kernel⟩
theorem kp_in (F : At K mg "_law_in" s_in) (N : Nb mg) : Keeps CX0 P w K mg base "_law_in" 1 ["_law_six_here", "_law_number"] spInS := by
  refine keeps_of F sc_in (fun _ _ _ _ _ _ us hl => match us, hl with | [_, _], _ => rfl) (fun vs H Q E h => ?_) (fun f cdv A outer s H vs Q E hr h => ?_)
  · obtain ⟨t, lo, hi, xs, m, us, ds, n, rfl, _⟩ := h
    rfl
  · obtain ⟨t, lo, hi, xs, m, us, ds, n, rfl, ⟨a, b, c, ht, ha, hb, hc⟩, D, k⟩ := h
    have hm : (0 : Int) < (m : Int) := by have := D.m0.1; omega
    have sz := D.sz
    refine ⟨_, (pss_cons (ps_if (pt_cmpR op_lt (pv 1) (pe_ix ix_tup (pv 0) pe_int (fun _ _ => rfl)) (nomark _)) (pss_one (ps_ret (pe_cmpR op_in_seq (pe_op op_mod (pe_callTy call_int1 (by rfl) N.int boot_int (pa_cons (pv 1) pa_nil)) (pe_ix ix_tup (pv 0) pe_int (fun _ _ => rfl))) (pe_ix ix_tup (pv 0) pe_int (fun _ _ => rfl)) (by rfl)))) pss_nil)
        (pss_cons (ps_if (pt_cmpR op_gt (pv 1) (pe_ix ix_tup (pv 0) pe_int (fun _ _ => rfl)) (nomark _)) (pss_one (ps_ret (pe_cmpR op_in_seq (pe_op op_mod (pe_callTy call_int1 (by rfl) N.int boot_int (pa_cons (pv 1) pa_nil)) (pe_ix ix_tup (pv 0) pe_int (fun _ _ => rfl))) (pe_ix ix_tup (pv 0) pe_int (fun _ _ => rfl)) (by rfl)))) pss_nil)
        (pss_one (ps_ret (pe_cmpR op_in_seq (pv 1) (pe_ix ix_tup (pv 0) pe_int (fun _ _ => rfl)) (by rfl)))))), ?_⟩
    unfold lotHas at k
    refine ⟨_, rfl, _, rfl, t, _, _, _, rfl, rfl, SqT.of ht, rfl, _, _, rfl, rfl, _, rfl, ite2 (fun h1 => ?_) (fun h1 => ?_)⟩
    · have h1 := of_decide_eq_true h1
      rw [if_neg (by omega), if_pos h1] at k
      refine ⟨_, rfl, .inl ⟨_, rfl, _, rfl, t, _, _, _, rfl, rfl, SqT.of ht, rfl, _, _, rfl, rfl, hm, _, rfl, t, _, _, _, rfl, rfl, SqT.of ht, rfl, c, _, rfl, .inl (SqL.of hc), rfl, flat_ints _, ?_⟩⟩
      show Q (.bl (inV _ _)) _
      rw [inV_ints]
      exact k
    · have h1 : ¬ n < lo := fun z => h1 (decide_eq_true z)
      refine ⟨_, rfl, _, rfl, t, _, _, _, rfl, rfl, SqT.of ht, rfl, _, _, rfl, rfl, _, rfl, ite2 (fun h2 => ?_) (fun h2 => ?_)⟩
      · have h2 : n > hi := of_decide_eq_true h2
        rw [if_pos h2] at k
        refine ⟨_, rfl, .inl ⟨_, rfl, _, rfl, t, _, _, _, rfl, rfl, SqT.of ht, rfl, _, _, rfl, rfl, hm, _, rfl, t, _, _, _, rfl, rfl, SqT.of ht, rfl, b, _, rfl, .inl (SqL.of hb), rfl, flat_ints _, ?_⟩⟩
        show Q (.bl (inV _ _)) _
        rw [inV_ints]
        exact k
      · have h2 : ¬ hi < n := fun z => h2 (decide_eq_true z)
        rw [if_neg h2, if_neg h1] at k
        refine ⟨_, rfl, _, rfl, t, _, _, _, rfl, rfl, SqT.of ht, rfl, a, _, rfl, .inl (SqL.of ha), rfl, flat_ints _, ?_⟩
        show Q (.bl (inV _ _)) _
        rw [inV_ints]
        exact k
/-! ### _law_lot -/
def spLlt (K : PySem.W.Frag) : Sp := fun vs H Q _ => ∃ (t : Addr) (lo hi : Int) (xs : List Int) (m : Nat) (us ds : List Int), vs = [.ref t] ∧ SixAt H t lo hi xs m us ds ∧ SixD lo hi xs m us ds ∧ ∀ q H', Same H H' → Lo K H' q 110 (fun x => lotHas lo hi xs m us ds x = true) → Q (.ref q) H'
abbrev s_llt : Stmt := top 62
abbrev N_llt : List Str := ["_law_six_here"]
theorem sc_llt : FnScope N_llt ["_law_six_here"] (defScope s_llt) := ⟨rfl, rfl, rfl, by decide +kernel, rfl, by decide +kernel, by decide +kernel⟩
theorem kp_llt (F : At K mg "_law_lot" s_llt) (N : Nb mg) (Gm : Keeps (CX P w) P w K mg base "make_lot" 4 ["low", "high", "inside", "modulus", "ups", "downs"] (spMake K)) : Keeps CX0 P w K mg base "_law_lot" 5 ["_law_six_here"] (spLlt K) := by
  refine keeps_of F sc_llt (fun _ _ _ _ _ _ us hl => match us, hl with | [_], _ => rfl) (fun vs H Q E h => ?_) (fun f cdv A outer s H vs Q E hr h => ?_)
  · obtain ⟨t, lo, hi, xs, m, us, ds, rfl, _⟩ := h
    rfl
  · obtain ⟨t, lo, hi, xs, m, us, ds, rfl, ⟨a, b, c, ht, ha, hb, hc⟩, D, k⟩ := h
    have hm : 0 < m := D.m0.1
    have hm6 := D.m0.2
    have sz := D.sz
    have l0 := D.l0
    have h79 := D.h1
    have eh : lo + ((hi + 1 - lo).toNat : Int) - 1 = hi := by omega
    refine ⟨_, (pss_one (ps_ret (pe_k Gm hr (by rfl) (passE (P := P) (w := w)) (pa_cons (pe_ix ix_tup (pv 0) pe_int (fun _ _ => rfl)) (pa_cons (pe_ix ix_tup (pv 0) pe_int (fun _ _ => rfl)) (pa_cons (pe_callTy call_tuple_of (by rfl) N.tuple (by decide +kernel) (pa_cons (pe_ix ix_tup (pv 0) pe_int (fun _ _ => rfl)) pa_nil)) (pa_cons (pe_ix ix_tup (pv 0) pe_int (fun _ _ => rfl)) (pa_cons (pe_callTy call_list_of (by rfl) N.list (by decide +kernel) (pa_cons (pe_ix ix_tup (pv 0) pe_int (fun _ _ => rfl)) pa_nil)) (pa_cons (pe_callTy call_tuple_of (by rfl) N.tuple (by decide +kernel) (pa_cons (pe_ix ix_tup (pv 0) pe_int (fun _ _ => rfl)) pa_nil)) pa_nil))))))))), ?_⟩
    refine ⟨_, rfl, t, _, _, _, rfl, rfl, SqT.of ht, rfl, _, rfl, t, _, _, _, rfl, rfl, SqT.of ht, rfl, _, rfl, t, _, _, _, rfl, rfl, SqT.of ht, rfl, a, _, rfl, .inl ⟨SqL.of ha, fun q1 n1 => ?_⟩⟩
    have s1 := same_new (o := .tup (xs.map V.int)) (Same.refl H) n1
    refine ⟨_, rfl, t, _, _, _, rfl, rfl, SqT.of (s1 _ _ ht), rfl, _, rfl, t, _, _, _, rfl, rfl, SqT.of (s1 _ _ ht), rfl, b, _, rfl, .inl (SqL.of (s1 _ _ hb)), fun q2 n2 => ?_⟩
    have s2 := same_new (o := .lst (us.map V.int)) s1 n2
    have e1 : upd (upd H q1 (.tup (xs.map V.int))) q2 (.lst (us.map V.int)) q1 = some (.tup (xs.map V.int)) := by
      rw [upd_ne (ne_of_none upd_same n2)]
      exact upd_same
    refine ⟨_, rfl, t, _, _, _, rfl, rfl, SqT.of (s2 _ _ ht), rfl, c, _, rfl, .inl ⟨SqL.of (s2 _ _ hc), fun q3 n3 => ?_⟩⟩
    have s3 := same_new (o := .tup (ds.map V.int)) s2 n3
    have e1' := same_new (o := .tup (ds.map V.int)) (Same.refl _) n3 _ _ e1
    have e2' := same_new (o := .tup (ds.map V.int)) (Same.refl _) n3 _ _ (upd_same (H := upd H q1 (.tup (xs.map V.int))) (a := q2) (o := .lst (us.map V.int)))
    refine ⟨tlOf lo (hi + 1 - lo).toNat xs m us ds, q1, q2, q3, xs, us, ds, ?_, ⟨tlOf_ok hm, by rw [tlOf_m]; omega, by rw [tlOf_c]; omega, (by show -10 ^ 31 ≤ lo ∧ lo ≤ 10 ^ 31; omega)⟩, ⟨by rw [tlOf_c]; omega, by rw [tlOf_m]; omega⟩, (by show -20000 ≤ lo; omega), by rw [tlOf_hi, eh]; omega, tlOf_told (fun x hx => by have := D.i x hx; omega) D.u D.d, ⟨D.nx, D.nu, D.nd⟩, ⟨Nat.le_trans D.lx (by decide), Nat.le_trans D.lu (by decide), Nat.le_trans D.ld (by decide)⟩, .inr e1', .inl e2', .inr upd_same, ?_⟩
    · rw [tlOf_hi, tlOf_m, eh]
      rfl
    · refine lot_end (B := 110) (tlOf_ok hm) (by rw [tlOf_m]; exact hm6) (by rw [tlOf_m]; show -110 ≤ lo - _; omega) (by rw [tlOf_hi, eh]; omega) (by omega) (fun x => ?_) fun p H' s4 l => k p H' (s3.trans s4) l
      rw [num_rng hm, eh]
/-! ### _law_images -/
/-- the images of a lot's numbers in a window stand at d -/
def ImAt (H : Hp) (d : Addr) (L : Lt) (h : Int → Prop) : Prop := ∃ kvs : List (Key × V), H d = some (.dK kvs) ∧ (L.sm = true → ∀ n : Int, (valV kvs (Sum.inl n)).isSome = true ↔ ∃ y, h y ∧ L.deed y = n)
def spIm : Sp := fun vs H Q _ => ∃ (a t : Addr) (L : Lt) (lo hi wi : Int) (xs : List Int) (m : Nat) (us ds : List Int), vs = [.ref a, .ref t, .int wi] ∧ H a = some (.tup L.vs) ∧ L.Ok ∧ SixAt H t lo hi xs m us ds ∧ SixD lo hi xs m us ds ∧ (0 ≤ wi ∧ wi ≤ 600) ∧
  ∀ d H', Same H H' → ImAt H' d L (fun y => (-wi ≤ y ∧ y ≤ wi) ∧ lotHas lo hi xs m us ds y = true) → Q (.ref d) H'
abbrev s_im : Stmt := top 63
abbrev N_im : List Str := ["_law_letter_here", "_law_six_here", "_law_wide", "_law_images_here", "_law_number"]
theorem sc_im : FnScope N_im ["_law_letter_here", "_law_six_here", "_law_wide"] (defScope s_im) := ⟨rfl, rfl, rfl, by decide +kernel, rfl, by decide +kernel, by decide +kernel⟩
theorem kp_im (F : At K mg "_law_images" s_im) (N : Nb mg) (Gi : Keeps CX0 P w K mg base "_law_in" 1 ["_law_six_here", "_law_number"] spInS) (Gd : Keeps CX0 P w K mg base "_law_deed" 1 ["_law_letter_here", "_law_number"] spDeed) : Keeps CX0 P w K mg base "_law_images" 2 ["_law_letter_here", "_law_six_here", "_law_wide"] spIm := by
  refine keeps_of F sc_im (fun _ _ _ _ _ _ us hl => match us, hl with | [_, _, _], _ => rfl) (fun vs H Q E h => ?_) (fun f cdv A outer s H vs Q E hr h => ?_)
  · obtain ⟨a, t, L, lo, hi, wi, xs, m, us, ds, rfl, _⟩ := h
    rfl
  · obtain ⟨a, t, L, lo, hi, wi, xs, m, us, ds, rfl, ha, ok, six, D, ⟨w0, w1⟩, k⟩ := h
    have hu := hu_of hr
    refine ⟨_, (pss_cons (ps_set (i := 3) sc_im.nd rfl (by walk_at "lv") pe_dnewK)
        (pss_cons (ps_if (pt_cmpR op_in_seq (pe_ix ix_tup (pv 0) pe_int (fun _ _ => rfl)) (pe_lst (pa_cons pe_str (pa_cons pe_str pa_nil))) (by rfl)) (pss_one (ps_for PassesOwn.never rfl (pi_range2 (by rfl) N.range (pa_cons (pe_un un_neg (pv 2)) (pa_cons (pe_op op_add (pv 2) pe_int) pa_nil))) (pg_name (i := 4) sc_im.nd rfl (by walk_at "lv")) (pss_one (ps_if (pt_val (pe_k Gi hr (by rfl) pass0 (pa_cons (pv 1) (pa_cons (pv 4) pa_nil)))) (pss_one (ps_dput hu (pv 3) (pe_k Gd hr (by rfl) pass0 (pa_cons (pv 0) (pa_cons (pv 4) pa_nil))) pe_bl rfl)) pss_nil)))) pss_nil)
        (pss_one (ps_ret (pv 3))))), ?_⟩
    intro d hd
    have sd := same_new (o := .dK []) (Same.refl H) hd
    refine ⟨_, rfl, a, _, _, _, rfl, rfl, SqT.of (sd _ _ ha), L.at0, (by show 2 ≤ sizeLine; decide), fun e he => ⟨e, _, rfl, .inl (SqL.of upd_same), rfl, rfl, _, rfl, ?_⟩⟩
    have de : d ≠ e := ne_of_none upd_same he
    have se := same_new (o := .lst [V.str "set", V.str "mod"]) sd he
    have ed : upd (upd H d (.dK [])) e (.lst [V.str "set", V.str "mod"]) d = some (.dK []) := by rw [upd_ne de]; exact upd_same
    show if (inV (V.str L.w) [V.str "set", V.str "mod"]) = true then _ else _
    rw [L.inV]
    cases sm : L.sm with
    | false => exact iteF ⟨_, rfl, k d _ se ⟨[], ed, fun z => by rw [sm] at z; cases z⟩⟩
    | true =>
      refine iteT ⟨_, rfl, _, rfl, _, rfl, _, _, rfl, rfl, _, _, rfl, ⟨by omega, by omega, by omega, by omega⟩, ?_⟩
      refine for_range (fun i σ H2 => ∃ (x : Option V) (kvs : List (Key × V)), σ = [some (V.ref a), some (V.ref t), some (V.int wi), some (V.ref d), x] ∧ H2 d = some (.dK kvs) ∧ kvs.length ≤ i ∧ (∀ n : Int, (valV kvs (Sum.inl n)).isSome = true ↔ ∃ y : Int, ((-wi ≤ y ∧ y < -wi + (i : Int)) ∧ lotHas lo hi xs m us ds y = true) ∧ L.deed y = n) ∧ Same H H2)
        ⟨_, [], rfl, ed, Nat.le_refl 0, fun n => ⟨fun z => by simp [valV_nil] at z, fun ⟨y, ⟨⟨_, _⟩, _⟩, _⟩ => by omega⟩, se⟩ ?_ ?_
      · rintro i σ H2 hi' ⟨x, kvs, rfl, e1, e2, e3, s2⟩
        refine ⟨_, rfl, _, rfl, t, lo, hi, xs, m, us, ds, _, rfl, six.same s2, D, _, rfl, ?_⟩
        cases hv : lotHas lo hi xs m us ds (-wi + (i : Int)) with
        | false =>
          refine iteF ⟨_, kvs, rfl, e1, by omega, fun n => (e3 n).trans ⟨fun ⟨y, ⟨⟨y0, y1⟩, y2⟩, y3⟩ => ⟨y, ⟨⟨y0, by omega⟩, y2⟩, y3⟩, fun ⟨y, ⟨⟨y0, y1⟩, y2⟩, y3⟩ => ⟨y, ⟨⟨y0, ?_⟩, y2⟩, y3⟩⟩, s2⟩
          have : y ≠ -wi + (i : Int) := fun z => by rw [z, hv] at y2; cases y2
          omega
        | true =>
          refine iteT ⟨_, rfl, _, rfl, _, rfl, a, L, _, rfl, s2 _ _ ha, ok, d, _, rfl, DPut.k (k := Sum.inl (L.deed (-wi + (i : Int)))) e1 (smallB (by omega)), ?_⟩
          refine ⟨_, _, rfl, upd_same, Nat.le_trans (length_putK _ _ _) (by omega), fun n => ?_, fun b o z => ?_⟩
          · rw [valV_put]
            by_cases c : (Sum.inl n : Key) = Sum.inl (L.deed (-wi + (i : Int)))
            · rw [if_pos c]
              refine ⟨fun _ => ⟨-wi + (i : Int), ⟨⟨by omega, by omega⟩, hv⟩, (Sum.inl.inj c).symm⟩, fun _ => rfl⟩
            · rw [if_neg c, e3 n]
              refine ⟨fun ⟨y, ⟨⟨y0, y1⟩, y2⟩, y3⟩ => ⟨y, ⟨⟨y0, by omega⟩, y2⟩, y3⟩, fun ⟨y, ⟨⟨y0, y1⟩, y2⟩, y3⟩ => ⟨y, ⟨⟨y0, ?_⟩, y2⟩, y3⟩⟩
              have : y ≠ -wi + (i : Int) := fun z => c (by rw [← y3, z])
              omega
          · have : b ≠ d := ne_of_none z hd
            rw [upd_ne this]
            exact s2 b o z
      · rintro σ H2 ⟨x, kvs, rfl, e1, e2, e3, s2⟩
        refine ⟨_, rfl, k d H2 s2 ⟨kvs, e1, fun _ n => (e3 n).trans ⟨fun ⟨y, ⟨⟨y0, y1⟩, y2⟩, y3⟩ => ⟨y, ⟨⟨y0, by omega⟩, y2⟩, y3⟩, fun ⟨y, ⟨⟨y0, y1⟩, y2⟩, y3⟩ => ⟨y, ⟨⟨y0, by omega⟩, y2⟩, y3⟩⟩⟩⟩
/-! ### _law_image_has -/
def spImH : Sp := fun vs H Q _ => ∃ (a t d : Addr) (L : Lt) (lo hi wi : Int) (xs : List Int) (m : Nat) (us ds : List Int) (n : Int), vs = [.ref a, .ref t, .ref d, .int n] ∧ H a = some (.tup L.vs) ∧ L.Ok ∧ SixAt H t lo hi xs m us ds ∧ SixD lo hi xs m us ds ∧
  ImAt H d L (fun y => (-wi ≤ y ∧ y ≤ wi) ∧ lotHas lo hi xs m us ds y = true) ∧ (0 ≤ wi - 6 * m ∧ -(wi - 6 * m) ≤ lo ∧ hi ≤ wi - 6 * m) ∧ ∀ b : Bool, (b = true ↔ ∃ y, lotHas lo hi xs m us ds y = true ∧ L.deed y = n) → Q (.bl b) H
abbrev s_imh : Stmt := top 64
abbrev N_imh : List Str := ["_law_letter_here", "_law_six_here", "_law_images_here", "_law_number"]
theorem sc_imh : FnScope N_imh ["_law_letter_here", "_law_six_here", "_law_images_here", "_law_number"] (defScope s_imh) := ⟨rfl, rfl, rfl, by decide +kernel, rfl, by decide +kernel, by decide +kernel⟩
theorem kp_imh (F : At K mg "_law_image_has" s_imh) (Gi : Keeps CX0 P w K mg base "_law_in" 1 ["_law_six_here", "_law_number"] spInS) : Keeps CX0 P w K mg base "_law_image_has" 2 ["_law_letter_here", "_law_six_here", "_law_images_here", "_law_number"] spImH := by
  refine keeps_of F sc_imh (fun _ _ _ _ _ _ us hl => match us, hl with | [_, _, _, _], _ => rfl) (fun vs H Q E h => ?_) (fun f cdv A outer s H vs Q E hr h => ?_)
  · obtain ⟨a, t, d, L, lo, hi, wi, xs, m, us, ds, n, rfl, _⟩ := h
    rfl
  · obtain ⟨a, t, d, L, lo, hi, wi, xs, m, us, ds, n, rfl, ha, ok, six, D, ⟨kvs, ed, im⟩, ⟨w0, w1, w2⟩, k⟩ := h
    have hu := hu_of hr
    have hm := D.m0.1
    refine ⟨_, (pss_cons (ps_if (pt_cmpR op_eq (pe_ix ix_tup (pv 0) pe_int (fun _ _ => rfl)) pe_str (nomark _)) (pss_one (ps_ret (pe_k Gi hr (by rfl) pass0 (pa_cons (pv 1) (pa_cons (pe_op op_sub (pv 3) (pe_ix ix_tup (pv 0) pe_int (fun _ _ => rfl))) pa_nil))))) pss_nil)
        (pss_cons (ps_if (pt_cmpR op_eq (pe_ix ix_tup (pv 0) pe_int (fun _ _ => rfl)) pe_str (nomark _)) (pss_one (ps_ret (pe_k Gi hr (by rfl) pass0 (pa_cons (pv 1) (pa_cons (pe_op op_sub pe_int (pv 3)) pa_nil))))) pss_nil)
        (pss_one (ps_ret (pe_cmp (pc_din hu (pv 3) (pv 2))))))), ?_⟩
    have dict : L.sm = true → ∀ b : Bool, (b = true ↔ (valV kvs (Sum.inl n)).isSome = true) → Q (.bl b) H := fun sm b hb => k b (hb.trans ((im sm n).trans (Iff.trans ⟨fun ⟨y, ⟨⟨y0, y1⟩, y2⟩, y3⟩ => ⟨y, y0, y1, y2, y3⟩, fun ⟨y, y0, y1, y2, y3⟩ => ⟨y, ⟨⟨y0, y1⟩, y2⟩, y3⟩⟩ (window D ok sm w0 w1 w2 n))))
    cases L with
    | set v =>
      refine ⟨_, rfl, a, _, _, _, rfl, rfl, SqT.of ha, rfl, rfl, _, rfl, iteN (by decide) ?_⟩
      refine ⟨_, rfl, a, _, _, _, rfl, rfl, SqT.of ha, rfl, rfl, _, rfl, iteN (by decide) ?_⟩
      exact ⟨_, rfl, _, rfl, d, _, rfl, DGet.k (k := Sum.inl n) ed, dict rfl _ Iff.rfl⟩
    | add v =>
      refine ⟨_, rfl, a, _, _, _, rfl, rfl, SqT.of ha, rfl, rfl, _, rfl, iteS ?_⟩
      refine ⟨_, rfl, _, rfl, _, rfl, a, _, _, _, rfl, rfl, SqT.of ha, rfl, _, _, rfl, rfl, t, lo, hi, xs, m, us, ds, _, rfl, six, D, k _ ⟨fun z => ⟨n - v, z, ?_⟩, fun ⟨y, y1, y2⟩ => ?_⟩⟩
      · show n - v + v = n
        omega
      · have y2 : y + v = n := y2
        rw [show n - v = y by omega]
        exact y1
    | turn =>
      refine ⟨_, rfl, a, _, _, _, rfl, rfl, SqT.of ha, rfl, rfl, _, rfl, iteN (by decide) ?_⟩
      refine ⟨_, rfl, a, _, _, _, rfl, rfl, SqT.of ha, rfl, rfl, _, rfl, iteS ?_⟩
      refine ⟨_, rfl, _, rfl, _, _, rfl, rfl, t, lo, hi, xs, m, us, ds, _, rfl, six, D, k _ ⟨fun z => ⟨0 - n, z, ?_⟩, fun ⟨y, y1, y2⟩ => ?_⟩⟩
      · show -(0 - n) = n
        omega
      · have y2 : -y = n := y2
        rw [show 0 - n = y by omega]
        exact y1
    | mod m2 =>
      refine ⟨_, rfl, a, _, _, _, rfl, rfl, SqT.of ha, rfl, rfl, _, rfl, iteN (by decide) ?_⟩
      refine ⟨_, rfl, a, _, _, _, rfl, rfl, SqT.of ha, rfl, rfl, _, rfl, iteN (by decide) ?_⟩
      exact ⟨_, rfl, _, rfl, d, _, rfl, DGet.k (k := Sum.inl n) ed, dict rfl _ Iff.rfl⟩
/-! ### _law_numbers -/
def spNums : Sp := fun vs H Q _ => ∃ (p c : Addr) (wi : Int), vs = [.ref p, .int wi] ∧ HandC H p c ∧ (0 ≤ wi ∧ wi ≤ 600) ∧ ∀ q (ns : List Int) H', H' q = some (.lst (ns.map V.int)) → ns.length ≤ 1300 → HandC H' p c → But p H H' → Q (.ref q) H'
abbrev s_nums : Stmt := top 65
abbrev N_nums : List Str := ["_law_hand_here", "_law_wide", "_law_far", "_law_turn", "_law_number"]
theorem sc_nums : FnScope N_nums ["_law_hand_here", "_law_wide"] (defScope s_nums) := ⟨rfl, rfl, rfl, by decide +kernel, rfl, by decide +kernel, by decide +kernel⟩
theorem kp_nums (F : At K mg "_law_numbers" s_nums) (N : Nb mg) (G : Keeps CX0 P w K mg base "_law_draw" 2 ["_law_hand_here", "_law_many"] spDraw) : Keeps CX0 P w K mg base "_law_numbers" 3 ["_law_hand_here", "_law_wide"] spNums := by
  refine keeps_of F sc_nums (fun _ _ _ _ _ _ us hl => match us, hl with | [_, _], _ => rfl) (fun vs H Q E h => ?_) (fun f cdv A outer s H vs Q E hr h => ?_)
  · obtain ⟨p, c, wi, rfl, _⟩ := h
    rfl
  · obtain ⟨p, c, wi, rfl, hh, ⟨w0, w1⟩, k⟩ := h
    refine ⟨_, (pss_cons (ps_setLc (i := 2) (own := [("_law_turn", 3)]) (g := gName 3) (tt := tYes) rfl sc_nums.nd rfl rfl (sw_true rfl rfl rfl (by decide +kernel)) (pi_range1 (by rfl) N.range (pa_cons pe_int pa_nil)) (blkOk_by (N := N_nums) (sc := defScope s_nums) (by decide +kernel)) (fun _ _ _ _ _ => (pg_name (i := 3) sc_nums.nd rfl (by walk_at "lv"))) (fun _ _ _ _ _ => pts_nil) (fun _ _ _ _ _ => (pe_k G hr (by rfl) pass0 (pa_cons (pv 0) (pa_cons (pe_op op_pow pe_int pe_int) pa_nil)))))
        (pss_one (ps_ret (pe_op op_cat (pe_op op_cat (pe_listRg (by rfl) (by rfl) N.list (prg_2 (by rfl) N.range (pe_un un_neg (pv 1)) (pe_op op_add (pv 1) pe_int))) (pv 2)) (pe_lc (own := [("_law_number", 4)]) (g := gName 4) (tt := tYes) rfl sc_nums.nd (pi_list (pv 2)) (blkOk_by (N := N_nums) (sc := defScope s_nums) (by decide +kernel)) (fun _ _ _ _ _ => (pg_name (i := 4) sc_nums.nd rfl (by walk_at "lv"))) (fun _ _ _ _ _ => pts_nil) (fun _ _ _ _ _ => (pe_op op_sub pe_int (pv 4)))))))), ?_⟩
    dsimp only [tSeq, tAsg]
    refine ⟨3, rfl, by decide, by decide, fun D hD => ?_⟩
    refine lc_it walk_range (fun i H3 => ∃ fs : List Int, H3 D = some (.lst (fs.map V.int)) ∧ fs.length = i ∧ HandC H3 p c ∧ But p H H3) ⟨[], upd_same, rfl, hh.same (same_new (Same.refl H) hD), But.of (same_new (Same.refl H) hD)⟩ (fun i H3 _ _ => trivial) ?_ ?_
    · rintro i v H3 H4 hi' ⟨fs, e, hl, h3, b3⟩ ⟨rfl, rfl⟩
      refine ⟨rfl, _, rfl, _, _, rfl, rfl, ⟨by decide, by decide, by decide⟩, p, c, _, rfl, h3, ⟨by decide, by decide +kernel⟩, fun r H5 _ _ h5 b5 => ?_⟩
      have Dp := hand_ne hh hD
      have e5 := b5 _ _ Dp e
      have Dc : c ≠ D := fun z => by
        obtain ⟨_, _, _, _, _, hc2, _⟩ := hh
        rw [z, hD] at hc2
        cases hc2
      refine ⟨_, e5, smallB (by rw [List.length_map]; omega), fs ++ [r], ?_, by rw [List.length_append, hl]; rfl, h5.upd Dp.symm Dc, fun x o hx ex => ?_⟩
      · rw [List.map_append]
        exact upd_same
      · rw [upd_ne (ne_of_none ex hD)]
        exact (b3.trans b5) x o hx ex
    · rintro H3 ⟨fs, e, hl, h3, b3⟩
      have hl : fs.length = 3 := hl
      refine ⟨_, rfl, _, rfl, _, rfl, _, _, rfl, rfl, _, _, rfl, rfl, ⟨by omega, by omega, by omega, by omega, by omega⟩, fun q1 n1 => ?_⟩
      have s1 := same_new (o := .lst (rgV (-wi) (wi + 1))) (Same.refl H3) n1
      have er : rgV (-wi) (wi + 1) = (irow (-wi) (wi + 1 - -wi).toNat).map V.int := rgV_irow _ _
      have lr : (rgV (-wi) (wi + 1)).length = (wi + 1 - -wi).toNat := by rw [er, List.length_map, irow_len]
      refine ⟨_, rfl, q1, D, _, _, rfl, rfl, upd_same, s1 _ _ e, by rw [lr, List.length_map, hl, sizeLine_eq]; omega, fun q2 n2 => ?_⟩
      have s2 := same_new (o := .lst (rgV (-wi) (wi + 1) ++ fs.map V.int)) s1 n2
      refine ⟨_, rfl, D, rfl, ⟨_, SqL.of (s2 _ _ e)⟩, fun D2 hD2 => ?_⟩
      have s3 := same_new (o := .lst []) s2 hD2
      refine lc_list (K := K) (a := D) (xs := fs.map V.int) (fun i H4 => ∃ gs : List Int, H4 D2 = some (.lst (gs.map V.int)) ∧ gs.length = i ∧ Same (upd (upd H3 q1 (.lst (rgV (-wi) (wi + 1)))) q2 (.lst (rgV (-wi) (wi + 1) ++ fs.map V.int))) H4) ⟨[], upd_same, rfl, same_new (Same.refl _) hD2⟩ (fun i H4 _ ⟨_, _, _, s4⟩ => SqL.of (s4 _ _ (s2 _ _ e))) ?_ ?_
      · rintro i v H4 hi' ⟨gs, eg, lg, s4⟩
        obtain ⟨n, hn, rfl⟩ := int_at hi'
        have i3 : i < 3 := by have := (List.getElem?_eq_some_iff.mp hn).1; omega
        refine ⟨rfl, _, rfl, _, _, rfl, rfl, _, eg, smallB (by rw [List.length_map]; omega), gs ++ [0 - n], ?_, by rw [List.length_append, lg]; rfl, fun b o z => ?_⟩
        · rw [List.map_append]
          exact upd_same
        · rw [upd_ne (ne_of_none z hD2)]
          exact s4 b o z
      · rintro H4 ⟨gs, eg, lg, s4⟩
        rw [List.length_map, hl] at lg
        refine ⟨q2, D2, _, _, rfl, rfl, s4 _ _ upd_same, eg, by rw [List.length_append, lr, List.length_map, List.length_map, hl, lg, sizeLine_eq]; omega, fun q3 n3 => ?_⟩
        have s34 : Same H3 H4 := s2.trans s4
        have s5 := same_new (o := .lst (rgV (-wi) (wi + 1) ++ fs.map V.int ++ gs.map V.int)) s34 n3
        refine k q3 (irow (-wi) (wi + 1 - -wi).toNat ++ fs ++ gs) _ ?_ ?_ (h3.same s5) (b3.trans (But.of s5))
        · rw [List.map_append, List.map_append, ← er]
          exact upd_same
        · rw [List.length_append, List.length_append, irow_len, hl, lg]
          omega
end
end My
set_option Elab.async false
set_option linter.all false
set_option maxRecDepth 100000
set_option maxHeartbeats 8000000
namespace My
open PySem PySem.Spec PyProof.Rows L2
local macro_rules | `(tactic| walk_at "lv") => `(tactic| first | exact Or.inl rfl | exact Or.inr rfl)
theorem tail_up {f g : Int → Bool} {d e : Nat} (pf : Per f d) (pg : Per g e) (hd : 0 < d) (he : 0 < e) {B : Int} (h : ∀ n, B < n → f n = g n) (n : Int) : f n = g n := by
  have n1 : (1 : Int) ≤ (d : Int) * (e : Int) := by
    have : 1 ≤ d * e := Nat.mul_pos hd he
    have q : ((1 : Nat) : Int) ≤ ((d * e : Nat) : Int) := Int.ofNat_le.mpr this
    rw [Int.natCast_mul] at q
    exact q
  have n2 : B.natAbs + n.natAbs + 1 ≤ ((d : Int) * (e : Int)) * (B.natAbs + n.natAbs + 1) := by
    have := Int.mul_le_mul_of_nonneg_right n1 (by omega : (0 : Int) ≤ B.natAbs + n.natAbs + 1)
    omega
  have e1 : (n + ((d : Int) * (e : Int)) * (B.natAbs + n.natAbs + 1)) % (d : Int) = n % (d : Int) := by
    rw [Int.mul_assoc]
    exact Int.add_mul_emod_self_left n d _
  have e2 : (n + ((d : Int) * (e : Int)) * (B.natAbs + n.natAbs + 1)) % (e : Int) = n % (e : Int) := by
    rw [Int.mul_comm (d : Int) (e : Int), Int.mul_assoc]
    exact Int.add_mul_emod_self_left n e _
  rw [← pf.cong e1, ← pg.cong e2]
  exact h _ (by omega)
theorem tail_dn {f g : Int → Bool} {d e : Nat} (pf : Per f d) (pg : Per g e) (hd : 0 < d) (he : 0 < e) {B : Int} (h : ∀ n, n < B → f n = g n) (n : Int) : f n = g n := by
  have n1 : (1 : Int) ≤ (d : Int) * (e : Int) := by
    have : 1 ≤ d * e := Nat.mul_pos hd he
    have q : ((1 : Nat) : Int) ≤ ((d * e : Nat) : Int) := Int.ofNat_le.mpr this
    rw [Int.natCast_mul] at q
    exact q
  have n2 : B.natAbs + n.natAbs + 1 ≤ ((d : Int) * (e : Int)) * (B.natAbs + n.natAbs + 1) := by
    have := Int.mul_le_mul_of_nonneg_right n1 (by omega : (0 : Int) ≤ B.natAbs + n.natAbs + 1)
    omega
  have e0 : ((d : Int) * (e : Int)) * -(B.natAbs + n.natAbs + 1) = -(((d : Int) * (e : Int)) * (B.natAbs + n.natAbs + 1)) := Int.mul_neg _ _
  have e1 : (n + ((d : Int) * (e : Int)) * -(B.natAbs + n.natAbs + 1)) % (d : Int) = n % (d : Int) := by
    rw [Int.mul_assoc]
    exact Int.add_mul_emod_self_left n d _
  have e2 : (n + ((d : Int) * (e : Int)) * -(B.natAbs + n.natAbs + 1)) % (e : Int) = n % (e : Int) := by
    rw [Int.mul_comm (d : Int) (e : Int), Int.mul_assoc]
    exact Int.add_mul_emod_self_left n e _
  rw [← pf.cong e1, ← pg.cong e2]
  exact h _ (by omega)
/-- lots of the same numbers are alike -/
theorem Lo.eq {K : PySem.W.Frag} {H : Hp} {p q : Addr} {B B' : Int} {h : Int → Prop} (x : Lo K H p B h) (y : Lo K H q B' h) : ∃ (lo hi : Int) (d : Nat) (xs us ds : List Int), LotAt (He.ga K "Lot") H p lo hi xs d us ds ∧ LotAt (He.ga K "Lot") H q lo hi xs d us ds := by
  obtain ⟨T, lo, hi, d, ok, hh, f, l, _⟩ := x
  obtain ⟨T', lo', hi', d', ok', hh', f', l', _⟩ := y
  have eh : T'.has = T.has := funext fun n => Bool.eq_iff_iff.mpr ((hh' n).trans (hh n).symm)
  have eU : T'.U = T.U := funext fun n => tail_up (B := max hi hi') f'.least.pu f.least.pu f'.least.pos f.least.pos (fun n hn => by rw [← f'.above (by omega), ← f.above (by omega), eh]) n
  have eD : T'.D = T.D := funext fun n => tail_dn (B := min lo lo') f'.least.pd f.least.pd f'.least.pos f.least.pos (fun n hn => by rw [← f'.below (by omega), ← f.below (by omega), eh]) n
  have f2 : IsForm T.has T.U T.D lo' hi' d' := by
    rw [← eh, ← eU, ← eD]
    exact f'
  obtain ⟨e1, e2, e3⟩ := f.unique f2
  subst e1 e2 e3
  refine ⟨lo, hi, d, _, _, _, l, ?_⟩
  unfold insOf at l' ⊢
  rw [eh, eU, eD] at l'
  exact l'
/-- within of two lots, the one in the other -/
theorem wi_none {K : PySem.W.Frag} {H : Hp} {p q : Addr} {B B' : Int} {h h' : Int → Prop} {Q : VK} (x : Lo K H p B h) (y : Lo K H q B' h') (b1 : B ≤ 400) (b2 : B' ≤ 400) (sub : ∀ n, h n → h' n) (k : ∀ H', Same H H' → Q .non H') : spWi K [.ref p, .ref q] H Q E0 := by
  obtain ⟨T, lo, hi, d, ok, hh, f, l, c1, c2, c3⟩ := x
  obtain ⟨T', lo', hi', d', ok', hh', f', l', c1', c2', c3'⟩ := y
  have L := lotD_of f c1 c2 c3 b1
  have L' := lotD_of f' c1' c2' c3' b2
  have lc : Nat.lcm d d' ≤ 3600 := by
    have q1 := Nat.le_of_dvd (Nat.mul_pos f.least.pos f'.least.pos) (Nat.lcm_dvd (Nat.dvd_mul_right d d') (Nat.dvd_mul_left d' d))
    have q2 := Nat.mul_le_mul c3 c3'
    omega
  refine ⟨p, q, lo, hi, lo', hi', d, d', _, _, _, _, _, _, rfl, ⟨l, l', L, L', by omega⟩, fun _ v H' s r => ?_, fun z => by omega⟩
  have z : ∀ n, opL (lotHas lo hi (insOf T lo hi) d (resOf T.U d) (resOf T.D d) n) (lotHas lo' hi' (insOf T' lo' hi') d' (resOf T'.U d') (resOf T'.D d') n) = false := fun n => by
    rw [has_of f, has_of f']
    unfold opL
    cases e : T.has n with
    | false => rfl
    | true => rw [(hh' n).mpr (sub n ((hh n).mp e))]; rfl
  rcases r with ⟨rfl, _⟩ | ⟨a, _, r, _⟩
  · exact k H' s
  · have r : opL _ _ = true := r
    rw [z] at r
    cases r
theorem vne {b c : Bool} (h : b = c) : (!decide (V.bl b = V.bl c)) = false := by rw [h]; simp
section
variable {P : Program} {w : World} {K : PySem.W.Frag} {mg : Str → Option Value} {base : Heap}
/-! ### _law_lots_hold -/
structure HoldSrc (P : Program) (w : World) (K : PySem.W.Frag) (mg : Str → Option Value) (base : Heap) : Prop where
  n : Nb mg
  max : mg "max" = none
  m : LotM P w K mg base
  six : Keeps CX0 P w K mg base "_law_six" 3 ["_law_hand_here", "_law_most", "_law_wide"] spSix
  pick : Keeps CX0 P w K mg base "_law_pick" 3 ["_law_hand_here", "_law_things"] spPick
  llt : Keeps CX0 P w K mg base "_law_lot" 5 ["_law_six_here"] (spLlt K)
  aft : Keeps CX0 P w K mg base "lot_after" 6 ["letter", "lot"] (spAft K)
  bef : Keeps CX0 P w K mg base "lot_before" 6 ["letter", "lot"] (spBef K)
  im : Keeps CX0 P w K mg base "_law_images" 2 ["_law_letter_here", "_law_six_here", "_law_wide"] spIm
  imh : Keeps CX0 P w K mg base "_law_image_has" 2 ["_law_letter_here", "_law_six_here", "_law_images_here", "_law_number"] spImH
  nums : Keeps CX0 P w K mg base "_law_numbers" 3 ["_law_hand_here", "_law_wide"] spNums
  in_ : Keeps CX0 P w K mg base "_law_in" 1 ["_law_six_here", "_law_number"] spInS
  deed : Keeps CX0 P w K mg base "_law_deed" 1 ["_law_letter_here", "_law_number"] spDeed
  wi : Keeps (CX P w) P w K mg base "within" 4 ["one", "other"] (spWi K)
def spLH : Sp := fun vs H Q _ => ∃ (p c a : Addr) (L : Lt), vs = [.ref p, .ref a] ∧ HandC H p c ∧ H a = some (.tup L.vs) ∧ L.Ok ∧ ∀ H', HandC H' p c → But p H H' → Q (.bl true) H'
abbrev s_lh : Stmt := top 66
abbrev N_lh : List Str := ["_law_hand_here", "_law_letter_here", "_law_six_here", "_law_edge", "_law_wide", "_law_lot_here", "_law_after", "_law_before", "_law_images_here", "_law_number"]
theorem sc_lh : FnScope N_lh ["_law_hand_here", "_law_letter_here"] (defScope s_lh) := ⟨rfl, rfl, rfl, by decide +kernel, rfl, by decide +kernel, by decide +kernel⟩
theorem mo_at {i : Nat} {v : V} (h : ([.int 2, .int 3, .int 6, .int 6, .int 60] : List V)[i]? = some v) : ∃ m : Nat, v = .int m ∧ 1 ≤ m ∧ m ≤ 60 := by
  match i, h with
  | 0, h => cases h; exact ⟨2, rfl, by decide, by decide⟩
  | 1, h => cases h; exact ⟨3, rfl, by decide, by decide⟩
  | 2, h => cases h; exact ⟨6, rfl, by decide, by decide⟩
  | 3, h => cases h; exact ⟨6, rfl, by decide, by decide⟩
  | 4, h => cases h; exact ⟨60, rfl, by decide, by decide⟩
theorem wi_at {i : Nat} {v : V} (h : ([.int 1, .int 4, .int 6, .int 6, .int 40] : List V)[i]? = some v) : ∃ m : Int, v = .int m ∧ 0 ≤ m ∧ m ≤ 40 := by
  match i, h with
  | 0, h => cases h; exact ⟨1, rfl, by decide, by decide⟩
  | 1, h => cases h; exact ⟨4, rfl, by decide, by decide⟩
  | 2, h => cases h; exact ⟨6, rfl, by decide, by decide⟩
  | 3, h => cases h; exact ⟨6, rfl, by decide, by decide⟩
  | 4, h => cases h; exact ⟨40, rfl, by decide, by decide⟩
theorem kp_lh (F : At K mg "_law_lots_hold" s_lh) (S : HoldSrc P w K mg base) : Keeps CX0 P w K mg base "_law_lots_hold" 7 ["_law_hand_here", "_law_letter_here"] spLH := by
  refine keeps_of F sc_lh (fun _ _ _ _ _ _ us hl => match us, hl with | [_, _], _ => rfl) (fun vs H Q E h => ?_) (fun f cdv A outer s H vs Q E hr h => ?_)
  · obtain ⟨p, c, a, L, rfl, _⟩ := h
    rfl
  · obtain ⟨p, c, a, L, rfl, hh, ha, ok, k⟩ := h
    have h5 : Room 5 (A.deeper (envOfC "_law_lots_hold" (defScope s_lh) s.heap.objs.size f cdv)) := hr.mono (by decide)
    have h4 : Room 4 (A.deeper (envOfC "_law_lots_hold" (defScope s_lh) s.heap.objs.size f cdv)) := hr.mono (by decide)
    have h3 : Room 3 (A.deeper (envOfC "_law_lots_hold" (defScope s_lh) s.heap.objs.size f cdv)) := hr.mono (by decide)
    have h2 : Room 2 (A.deeper (envOfC "_law_lots_hold" (defScope s_lh) s.heap.objs.size f cdv)) := hr.mono (by decide)
    have h1 : Room 1 (A.deeper (envOfC "_law_lots_hold" (defScope s_lh) s.heap.objs.size f cdv)) := hr.mono (by decide)
    obtain ⟨fc, Fc, bc⟩ := S.m.ck
    obtain ⟨fe, Fe, be⟩ := S.m.ek
    -- the loop and what stands behind it
    obtain ⟨t7, d7, tail7⟩ : ∃ tl, PSs (cxOf CX0 P w K mg base N_lh "_law_lots_hold" (defScope s_lh) f cdv A outer s H E).nox ((defBody s_lh).drop 7) tl ∧ ∀ (H1 : Hp) (t l q r d : Addr) (x3 : Option V) (lo hi wi : Int) (xs : List Int) (m : Nat) (us ds : List Int), HandC H1 p c → But p H H1 → H1 a = some (.tup L.vs) → SixAt H1 t lo hi xs m us ds → SixD lo hi xs m us ds → (0 ≤ wi ∧ wi ≤ 600) → (0 ≤ wi - 6 * m ∧ -(wi - 6 * m) ≤ lo ∧ hi ≤ wi - 6 * m) →
        Lo K H1 l 110 (fun x => lotHas lo hi xs m us ds x = true) → Lo K H1 q 190 (fun x => ∃ y, lotHas lo hi xs m us ds y = true ∧ L.deed y = x) → Lo K H1 r 190 (fun x => lotHas lo hi xs m us ds (L.deed x) = true) → ImAt H1 d L (fun y => (-wi ≤ y ∧ y ≤ wi) ∧ lotHas lo hi xs m us ds y = true) →
        tl { nx := fun _ H' => Q .non H', rt := Q } [some (V.ref p), some (V.ref a), some (V.ref t), x3, some (V.int wi), some (V.ref l), some (V.ref q), some (V.ref r), some (V.ref d), none] H1 := by
      refine ⟨_, (pss_cons (ps_for PassesOwn.never rfl (pi_list (pe_k S.nums h3 (by rfl) pass0 (pa_cons (pv 0) (pa_cons (pv 4) pa_nil)))) (pg_name (i := 9) sc_lh.nd rfl (by walk_at "lv")) (pss_cons (ps_if (pt_cmpR op_ne (pe_cmpR (op_inOwn Fc S.m.ch S.m.cf bc pass0 h1) (pv 9) (pv 6) (by rfl)) (pe_k S.imh h2 (by rfl) pass0 (pa_cons (pv 1) (pa_cons (pv 2) (pa_cons (pv 8) (pa_cons (pv 9) pa_nil))))) (nomark _)) (pss_one (ps_ret pe_bl)) pss_nil) (pss_one (ps_if (pt_cmpR op_ne (pe_cmpR (op_inOwn Fc S.m.ch S.m.cf bc pass0 h1) (pv 9) (pv 7) (by rfl)) (pe_k S.in_ h1 (by rfl) pass0 (pa_cons (pv 2) (pa_cons (pe_k S.deed h1 (by rfl) pass0 (pa_cons (pv 1) (pa_cons (pv 9) pa_nil))) pa_nil))) (nomark _)) (pss_one (ps_ret pe_bl)) pss_nil))))
        (pss_cons (ps_if (PW.pt (pw_or (pt_cmpR op_notN (pe_k S.wi h4 (by rfl) (passE (P := P) (w := w)) (pa_cons (pv 5) (pa_cons (pe_k S.bef hr (by rfl) pass0 (pa_cons (pv 1) (pa_cons (pv 6) pa_nil))) pa_nil))) pe_non (nomark _)) (pw_or1 (pt_cmpR op_notN (pe_k S.wi h4 (by rfl) (passE (P := P) (w := w)) (pa_cons (pe_k S.aft hr (by rfl) pass0 (pa_cons (pv 1) (pa_cons (pv 7) pa_nil))) (pa_cons (pv 5) pa_nil))) pe_non (nomark _))))) (pss_one (ps_ret pe_bl)) pss_nil)
        (pss_one (ps_ret (pe_cmpR (op_eqOwn Fe S.m.eh S.m.ef be pass0 h1) (pv 5) (pe_k S.llt h5 (by rfl) pass0 (pa_cons (pv 2) pa_nil)) (nomark _)))))), ?_⟩
      intro H1 t l q r d x3 lo hi wi xs m us ds hh1 b1 ea six D wib win xl xq xr im
      refine ⟨_, rfl, _, rfl, p, c, wi, rfl, hh1, wib, fun g ns H2 eg lg hh2 b2 => ⟨g, rfl, ⟨_, SqL.of eg⟩, ?_⟩⟩
      have b12 := b1.trans b2
      have ea2 := b2 _ _ (hh1.nt ea) ea
      have six2 := six.but hh1 b2
      have xl2 := xl.but hh1 b2
      have xq2 := xq.but hh1 b2
      have xr2 := xr.but hh1 b2
      have im2 : ImAt H2 d L (fun y => (-wi ≤ y ∧ y ≤ wi) ∧ lotHas lo hi xs m us ds y = true) := by
        obtain ⟨kvs, e, z⟩ := im
        refine ⟨kvs, b2 _ _ (fun z => ?_) e, z⟩
        obtain ⟨_, _, _, _, hp, _⟩ := hh1
        rw [z, hp] at e
        cases e
      refine for_it walk_list (fun i σ H3 => ∃ x : Option V, σ = [some (V.ref p), some (V.ref a), some (V.ref t), x3, some (V.int wi), some (V.ref l), some (V.ref q), some (V.ref r), some (V.ref d), x] ∧ Same H2 H3) ⟨_, rfl, Same.refl H2⟩ (fun i σ H3 _ ⟨_, _, s3⟩ => SqL.of (s3 _ _ eg)) ?_ ?_
      · rintro i v σ H3x H3 hi' ⟨x, rfl, s3⟩ ⟨rfl, e4⟩
        obtain ⟨n, hn, rfl⟩ := int_at e4
        obtain ⟨dx, fs, b, hp, hb, cont⟩ := (xq2.same s3).in (n := n)
        refine ⟨_, rfl, _, rfl, q, dx, fs, rfl, hp, cont _ ⟨b, rfl, ?_⟩⟩
        have im3 : ImAt H3 d L (fun y => (-wi ≤ y ∧ y ≤ wi) ∧ lotHas lo hi xs m us ds y = true) := by
          obtain ⟨kvs, e, z⟩ := im2
          exact ⟨kvs, s3 _ _ e, z⟩
        refine ⟨_, rfl, _, rfl, _, rfl, _, rfl, a, t, d, L, lo, hi, wi, xs, m, us, ds, n, rfl, s3 _ _ ea2, ok, six2.same s3, D, im3, win, fun b' hb' => ⟨rfl, _, rfl, ?_⟩⟩
        rw [vne (Bool.eq_iff_iff.mpr (hb.trans hb'.symm))]
        obtain ⟨dy, fs', b3, hp', hb3, cont'⟩ := (xr2.same s3).in (n := n)
        refine iteF ⟨_, rfl, _, rfl, r, dy, fs', rfl, hp', cont' _ ⟨b3, rfl, ?_⟩⟩
        refine ⟨_, rfl, _, rfl, _, rfl, a, L, n, rfl, s3 _ _ ea2, ok, t, lo, hi, xs, m, us, ds, _, rfl, six2.same s3, D, rfl, _, rfl, ?_⟩
        rw [vne (Bool.eq_iff_iff.mpr hb3)]
        exact iteF ⟨_, rfl, s3⟩
      · rintro σ H3 ⟨x, rfl, s3⟩
        have xl3 := xl2.same s3
        have xq3 := xq2.same s3
        have xr3 := xr2.same s3
        have nn : (!decide (V.non = V.non)) = false := by simp
        refine ⟨_, rfl, _, rfl, _, rfl, a, q, L, 190, _, rfl, s3 _ _ ea2, ok, xq3, ⟨by decide, by decide⟩, fun u H4 s4 xu => ?_⟩
        refine wi_none (xl3.same s4) xu (by decide) (by decide) (fun n hn => ⟨n, hn, rfl⟩) fun H5 s5 => ⟨rfl, _, rfl, ?_⟩
        rw [nn]
        refine iteF ⟨_, rfl, _, rfl, a, r, L, 190, _, rfl, s5 _ _ (s4 _ _ (s3 _ _ ea2)), ok, (xr3.same s4).same s5, ⟨by decide, by decide⟩, fun u2 H6 s6 xu2 => ⟨_, rfl, ?_⟩⟩
        have s46 := (s4.trans s5).trans s6
        refine wi_none xu2 (xl3.same s46) (by decide) (by decide) (fun n ⟨y, y1, y2⟩ => by rw [← y2]; exact y1) fun H7 s7 => ⟨rfl, _, rfl, ?_⟩
        rw [nn]
        have s37 := (s3.trans s46).trans s7
        refine iteF ⟨_, rfl, _, rfl, t, lo, hi, xs, m, us, ds, rfl, six2.same s37, D, fun z H8 s8 xz => ?_⟩
        obtain ⟨lo', hi', d', xs', us', ds', l1, l2⟩ := (xl2.same (s37.trans s8)).eq xz
        obtain ⟨dx1, w1, w2, w3, hp1, _⟩ := id l1
        obtain ⟨dx2, w1', w2', w3', hp2, _⟩ := id l2
        refine ⟨l, z, dx1, dx2, _, _, rfl, rfl, hp1, hp2, l, z, lo', hi', lo', hi', d', d', _, _, _, _, _, _, rfl, l1, l2, true, ?_, k H8 (hh2.same (s37.trans s8)) (b12.trans (But.of (s37.trans s8)))⟩
        rw [lotEq_self]
    refine ⟨_, (pss_cons (ps_set (i := 2) sc_lh.nd rfl (by walk_at "lv") (pe_k S.six h3 (by rfl) pass0 (pa_cons (pv 0) (pa_cons (pe_k S.pick h3 (by rfl) pass0 (pa_cons (pv 0) (pa_cons (pe_lst (pa_cons pe_int (pa_cons pe_int (pa_cons pe_int (pa_cons pe_int (pa_cons pe_int pa_nil)))))) pa_nil))) (pa_cons (pe_k S.pick h3 (by rfl) pass0 (pa_cons (pv 0) (pa_cons (pe_lst (pa_cons pe_int (pa_cons pe_int (pa_cons pe_int (pa_cons pe_int (pa_cons pe_int pa_nil)))))) pa_nil))) pa_nil)))))
        (pss_cons (ps_set (i := 3) sc_lh.nd rfl (by walk_at "lv") (pe_op op_add (pe_callB (call_max2 rfl) (by rfl) S.max (by decide +kernel) (pa_cons (pe_callB call_abs (by rfl) S.n.abs boot_abs (pa_cons (pe_ix ix_tup (pv 2) pe_int (fun _ _ => rfl)) pa_nil)) (pa_cons (pe_callB call_abs (by rfl) S.n.abs boot_abs (pa_cons (pe_ix ix_tup (pv 2) pe_int (fun _ _ => rfl)) pa_nil)) pa_nil))) pe_int))
        (pss_cons (ps_set (i := 4) sc_lh.nd rfl (by walk_at "lv") (pe_op op_add (pv 3) (pe_op op_mul pe_int (pe_ix ix_tup (pv 2) pe_int (fun _ _ => rfl)))))
        (pss_cons (ps_set (i := 5) sc_lh.nd rfl (by walk_at "lv") (pe_k S.llt h5 (by rfl) pass0 (pa_cons (pv 2) pa_nil)))
        (pss_cons (ps_set (i := 6) sc_lh.nd rfl (by walk_at "lv") (pe_k S.aft hr (by rfl) pass0 (pa_cons (pv 1) (pa_cons (pv 5) pa_nil))))
        (pss_cons (ps_set (i := 7) sc_lh.nd rfl (by walk_at "lv") (pe_k S.bef hr (by rfl) pass0 (pa_cons (pv 1) (pa_cons (pv 5) pa_nil))))
        (pss_cons (ps_set (i := 8) sc_lh.nd rfl (by walk_at "lv") (pe_k S.im h2 (by rfl) pass0 (pa_cons (pv 1) (pa_cons (pv 2) (pa_cons (pv 4) pa_nil)))))
        d7))))))), ?_⟩
    refine ⟨_, rfl, _, rfl, (by show 5 ≤ sizeLine; decide), fun e1 n1 => ?_⟩
    have s1 := same_new (o := .lst [V.int 2, V.int 3, V.int 6, V.int 6, V.int 60]) (Same.refl H) n1
    refine ⟨p, c, e1, _, rfl, hh.same s1, upd_same, hand_ne hh n1, ⟨by decide, by decide⟩, fun i v H2 hv hh2 b2 => ?_⟩
    obtain ⟨mo, rfl, mo1, mo6⟩ := mo_at hv
    refine ⟨_, rfl, (by show 5 ≤ sizeLine; decide), fun e2 n2 => ?_⟩
    have s2 := same_new (o := .lst [V.int 1, V.int 4, V.int 6, V.int 6, V.int 40]) (Same.refl H2) n2
    refine ⟨p, c, e2, _, rfl, hh2.same s2, upd_same, hand_ne hh2 n2, ⟨by decide, by decide⟩, fun i v H3 hv hh3 b3 => ?_⟩
    obtain ⟨wi0, rfl, wa, wb⟩ := wi_at hv
    refine ⟨p, c, mo, wi0, rfl, hh3, ⟨mo1, mo6⟩, ⟨wa, wb⟩, fun t lo hi xs m us ds H4 D six hh4 b4 => ?_⟩
    have b14 : But p H H4 := ((((But.of s1).trans b2).trans (But.of s2)).trans b3).trans b4
    have ea4 : H4 a = some (.tup L.vs) := b14 _ _ (hh.nt ha) ha
    obtain ⟨ta, tb, tc, et, _⟩ := id six
    have l0 := D.l0
    have sz := D.sz
    have h79 := D.h1
    have m60 := D.m0
    have A : ∀ x : Int, (if x < 0 then -x else x) = (x.natAbs : Int) := fun x => by split <;> omega
    obtain ⟨wi, hwi, f1, f2⟩ : ∃ wi : Int, wi = (if (if hi < 0 then -hi else hi) > if lo < 0 then -lo else lo then if hi < 0 then -hi else hi else if lo < 0 then -lo else lo) + 21 + 6 * (m : Int) ∧ (0 ≤ wi ∧ wi ≤ 600) ∧ (0 ≤ wi - 6 * m ∧ -(wi - 6 * m) ≤ lo ∧ hi ≤ wi - 6 * m) := by
      refine ⟨_, rfl, ?_⟩
      rw [A, A]
      split <;> exact ⟨⟨by omega, by omega⟩, by omega, by omega, by omega⟩
    subst hwi
    refine ⟨_, rfl, t, _, _, _, rfl, rfl, SqT.of et, rfl, _, rfl, _, rfl, t, _, _, _, rfl, rfl, SqT.of et, rfl, _, rfl, _, _, rfl, _, _, rfl, rfl, ?_⟩
    refine ⟨_, rfl, _, rfl, t, _, _, _, rfl, rfl, SqT.of et, rfl, _, _, rfl, rfl, .inl ⟨by decide, by decide⟩, _, _, rfl, rfl, ?_⟩
    refine ⟨_, rfl, t, lo, hi, xs, m, us, ds, rfl, six, D, fun l H5 s5 xl => ?_⟩
    refine ⟨_, rfl, _, rfl, a, l, L, 110, _, rfl, s5 _ _ ea4, ok, xl, ⟨by decide, by decide⟩, fun q H6 s6 xq => ?_⟩
    refine ⟨_, rfl, _, rfl, a, l, L, 110, _, rfl, (s5.trans s6) _ _ ea4, ok, xl.same s6, ⟨by decide, by decide⟩, fun r H7 s7 xr => ?_⟩
    refine ⟨_, rfl, _, rfl, _, rfl, a, t, L, lo, hi, _, xs, m, us, ds, rfl, ((s5.trans s6).trans s7) _ _ ea4, ok, six.same ((s5.trans s6).trans s7), D, ?_, fun d H8 s8 im => ?_⟩
    · exact f1
    · have s48 := ((s5.trans s6).trans s7).trans s8
      have s58 := (s6.trans s7).trans s8
      exact tail7 H8 t l q r d _ lo hi _ xs m us ds (hh4.same s48) (b14.trans (But.of s48)) (s48 _ _ ea4) (six.same s48) D f1 f2 (xl.same s58) (xq.same (s7.trans s8)) (xr.same s8) im
end
end My
set_option Elab.async false
set_option linter.all false
set_option maxRecDepth 100000
set_option maxHeartbeats 8000000
namespace My
open PySem PySem.Spec PyProof.Rows L2
local macro_rules | `(tactic| walk_at "lv") => `(tactic| first | exact Or.inl rfl | exact Or.inr rfl)
section
variable {P : Program} {w : World} {K : PySem.W.Frag} {mg : Str → Option Value} {base : Heap}
/-! ### _law_numbers_hold -/
structure NumSrc (P : Program) (w : World) (K : PySem.W.Frag) (mg : Str → Option Value) (base : Heap) : Prop where
  n : Nb mg
  m : LotM P w K mg base
  lt : Keeps CX0 P w K mg base "lot_of_test" 6 ["test"] (spLT K)
  nums : Keeps CX0 P w K mg base "_law_numbers" 3 ["_law_hand_here", "_law_wide"] spNums
  do_ : Keeps CX0 P w K mg base "do_letter" 1 ["letter", "number"] spDeed
  deed : Keeps CX0 P w K mg base "_law_deed" 1 ["_law_letter_here", "_law_number"] spDeed
  pass : Keeps CX0 P w K mg base "passes" 1 ["test", "number"] spPass
  lps : Keeps CX0 P w K mg base "_law_passes" 1 ["_law_test_here", "_law_number"] spPass
  whole : Keeps CX0 P w K mg base "_law_whole" 1 ["_law_thing"] spWhole
def spNH : Sp := fun vs H Q _ => ∃ (p c a b : Addr) (L : Lt) (T : Ts), vs = [.ref p, .ref a, .ref b] ∧ HandC H p c ∧ H a = some (.tup L.vs) ∧ L.Ok ∧ H b = some (.tup T.vs) ∧ T.Ok ∧ ∀ H', HandC H' p c → But p H H' → Q (.bl true) H'
abbrev s_nh : Stmt := top 67
abbrev N_nh : List Str := ["_law_hand_here", "_law_letter_here", "_law_test_here", "_law_lot_here", "_law_number", "_law_told", "_law_due"]
theorem sc_nh : FnScope N_nh ["_law_hand_here", "_law_letter_here", "_law_test_here"] (defScope s_nh) := ⟨rfl, rfl, rfl, by decide +kernel, rfl, by decide +kernel, by decide +kernel⟩
theorem kp_nh (F : At K mg "_law_numbers_hold" s_nh) (S : NumSrc P w K mg base) : Keeps CX0 P w K mg base "_law_numbers_hold" 7 ["_law_hand_here", "_law_letter_here", "_law_test_here"] spNH := by
  refine keeps_of F sc_nh (fun _ _ _ _ _ _ us hl => match us, hl with | [_, _, _], _ => rfl) (fun vs H Q E h => ?_) (fun f cdv A outer s H vs Q E hr h => ?_)
  · obtain ⟨p, c, a, b, L, T, rfl, _⟩ := h
    rfl
  · obtain ⟨p, c, a, b, L, T, rfl, hh, ha, ok, hb, okT, k⟩ := h
    have h3 : Room 3 (A.deeper (envOfC "_law_numbers_hold" (defScope s_nh) s.heap.objs.size f cdv)) := hr.mono (by decide)
    have h1 : Room 1 (A.deeper (envOfC "_law_numbers_hold" (defScope s_nh) s.heap.objs.size f cdv)) := hr.mono (by decide)
    obtain ⟨fc, Fc, bc⟩ := S.m.ck
    refine ⟨_, (pss_cons (ps_set (i := 3) sc_nh.nd rfl (by walk_at "lv") (pe_k S.lt hr (by rfl) pass0 (pa_cons (pv 2) pa_nil)))
        (pss_cons (ps_for PassesOwn.never rfl (pi_list (pe_k S.nums h3 (by rfl) pass0 (pa_cons (pv 0) (pa_cons pe_int pa_nil)))) (pg_name (i := 4) sc_nh.nd rfl (by walk_at "lv")) (pss_cons (ps_set (i := 5) sc_nh.nd rfl (by walk_at "lv") (pe_k S.do_ h1 (by rfl) pass0 (pa_cons (pv 1) (pa_cons (pv 4) pa_nil))))
        (pss_cons (ps_if (PW.pt (pw_or (pt_not (pt_val (pe_k S.whole h1 (by rfl) pass0 (pa_cons (pv 5) pa_nil)))) (pw_or1 (pt_cmpR op_ne (pv 5) (pe_k S.deed h1 (by rfl) pass0 (pa_cons (pv 1) (pa_cons (pv 4) pa_nil))) (nomark _))))) (pss_one (ps_ret pe_bl)) pss_nil)
        (pss_cons (ps_set (i := 6) sc_nh.nd rfl (by walk_at "lv") (pe_k S.lps h1 (by rfl) pass0 (pa_cons (pv 2) (pa_cons (pv 4) pa_nil))))
        (pss_one (ps_if (PW.pt (pw_or (pt_cmpR op_ne (pe_k S.pass h1 (by rfl) pass0 (pa_cons (pv 2) (pa_cons (pv 4) pa_nil))) (pv 6) (nomark _)) (pw_or (pt_not (pt_val (pe_callB call_isi (by rfl) S.n.isinstance boot_isinstance (pa_cons (pe_k S.pass h1 (by rfl) pass0 (pa_cons (pv 2) (pa_cons (pv 4) pa_nil))) (pa_cons (pe_bltn (v := .ty "bool") (by rfl) S.n.bool (by decide +kernel) rfl) pa_nil))))) (pw_or1 (pt_cmpR op_ne (pe_cmpR (op_inOwn Fc S.m.ch S.m.cf bc pass0 h1) (pv 4) (pv 3) (by rfl)) (pv 6) (nomark _)))))) (pss_one (ps_ret pe_bl)) pss_nil))))))
        (pss_one (ps_ret pe_bl)))), ?_⟩
    refine ⟨_, rfl, b, T, rfl, hb, okT, fun l H1 s1 xl => ?_⟩
    have hh1 := hh.same s1
    refine ⟨_, rfl, p, c, 40, rfl, hh1, ⟨by decide, by decide⟩, fun g ns H2 eg lg hh2 b2 => ⟨g, rfl, ⟨_, SqL.of eg⟩, ?_⟩⟩
    have ea2 := b2 _ _ (hh1.nt (s1 _ _ ha)) (s1 _ _ ha)
    have eb2 := b2 _ _ (hh1.nt (s1 _ _ hb)) (s1 _ _ hb)
    have xl2 := xl.but hh1 b2
    refine for_it walk_list (fun i σ H3 => ∃ x y z : Option V, σ = [some (V.ref p), some (V.ref a), some (V.ref b), some (V.ref l), x, y, z] ∧ Same H2 H3) ⟨_, _, _, rfl, Same.refl H2⟩ (fun i σ H3 _ ⟨_, _, _, _, s3⟩ => SqL.of (s3 _ _ eg)) ?_ ?_
    · rintro i v σ H3x H3 hi' ⟨x, y, z, rfl, s3⟩ ⟨rfl, e4⟩
      obtain ⟨n, hn, rfl⟩ := int_at e4
      refine ⟨_, rfl, _, rfl, a, L, n, rfl, s3 _ _ ea2, ok, ?_⟩
      refine ⟨_, rfl, L.deed n, rfl, _, rfl, iteF ⟨_, rfl, _, rfl, _, rfl, a, L, n, rfl, s3 _ _ ea2, ok, rfl, _, rfl, ?_⟩⟩
      rw [show (!decide (V.int (L.deed n) = V.int (L.deed n))) = false by simp]
      refine iteF ⟨_, rfl, _, rfl, b, T, n, rfl, s3 _ _ eb2, okT, ?_⟩
      refine ⟨_, rfl, _, rfl, b, T, n, rfl, s3 _ _ eb2, okT, _, rfl, rfl, _, rfl, ?_⟩
      rw [vne rfl]
      refine iteF ⟨_, rfl, _, rfl, b, T, n, rfl, s3 _ _ eb2, okT, .bl _, .ty "bool", _, _, true, rfl, .ty _, .base (.bl _), kit_ty (by decide +kernel), _, rfl, ?_⟩
      obtain ⟨dx, fs, b3, hp, hb3, cont⟩ := (xl2.same s3).in (n := n)
      refine iteF ⟨_, rfl, _, rfl, l, dx, fs, rfl, hp, cont _ ⟨b3, rfl, _, rfl, rfl, _, rfl, ?_⟩⟩
      rw [vne (Bool.eq_iff_iff.mpr hb3)]
      exact iteF ⟨_, _, _, rfl, s3⟩
    · rintro σ H3 ⟨x, y, z, rfl, s3⟩
      exact k H3 (hh2.same s3) ((But.of s1).trans (b2.trans (But.of s3)))
end
end My
set_option Elab.async false
set_option linter.all false
set_option maxRecDepth 100000
set_option maxHeartbeats 8000000
namespace My
open PySem PySem.Spec PyProof.Rows L2
local macro_rules | `(tactic| walk_at "lv") => `(tactic| first | exact Or.inl rfl | exact Or.inr rfl)
/-! ### things of any kind -/
/-- what stands in a thing -/
inductive El (K : PySem.W.Frag) (H : Hp) : V → PyData → Prop
  | non : El K H .non .none
  | bl (b : Bool) : El K H (.bl b) (.bool b)
  | int (n : Int) : El K H (.int n) (.int n)
  | str (x : Str) (sh : SeqAt.shaped (.str x) = true) : El K H (.str x) (.str x)
  | lst {a : Addr} {xs : List V} {ds : List PyData} : H a = some (.lst xs) → DpAll K H xs ds → SeqAt.shaped (.list ds) = true → El K H (.ref a) (.list ds)
def wD (lo hi : Int) : V → Bool
  | .int n => decide (lo ≤ n) && decide (n ≤ hi)
  | _ => false
def isW (x : V) (z : Str) : Bool := match x with
  | .str y => decide (y = z)
  | _ => false
/-- does a row say a letter, a test -/
def fitsL : List V → Bool
  | [] => false
  | x :: r => if isW x "turn" then r.isEmpty else match r with
    | [y] => if isW x "mod" then wD 1 6 y else (isW x "set" || isW x "add") && wD (-20) 20 y
    | _ => false
def intOf : V → Int
  | .int n => n
  | _ => 0
def fitsT : List V → Bool
  | [] => false
  | x :: r => if isW x "rest" then (match r with
    | [y, z] => wD 1 6 y && wD 0 (intOf y - 1) z
    | _ => false) else match r with
    | [y] => (isW x "below" || isW x "is") && wD (-20) 20 y
    | _ => false
theorem El.same {K : PySem.W.Frag} {H H' : Hp} {x : V} {d : PyData} (s : Same H H') (h : El K H x d) (hf : ∀ a xs, x = .ref a → H a = some (.lst xs) → ∀ y ∈ xs, (∃ n, y = .int n) ∨ ∃ z, y = .str z) : El K H' x d := by
  cases h with
  | non => exact .non
  | bl b => exact .bl b
  | int n => exact .int n
  | str z sh => exact .str z sh
  | lst e ha sh =>
    refine .lst (s _ _ e) ?_ sh
    have q := hf _ _ rfl e
    clear hf sh e
    rename_i a xs ds
    induction xs generalizing ds with
    | nil => cases ha; exact .nil
    | cons y ys ih =>
      cases ha with
      | cons h1 h2 =>
        refine .cons ?_ (ih h2 fun z hz => q z (List.mem_cons_of_mem _ hz))
        rcases q y List.mem_cons_self with ⟨n, rfl⟩ | ⟨z, rfl⟩
        · cases h1; exact .int n
        · cases h1; exact .str z
theorem El.shaped {K : PySem.W.Frag} {H : Hp} {x : V} {d : PyData} (h : El K H x d) : SeqAt.shaped d = true := by
  cases h with
  | lst _ _ sh => exact sh
  | str _ sh => exact sh
  | _ => rfl
theorem El.dp {K : PySem.W.Frag} {H : Hp} {x : V} {d : PyData} (h : El K H x d) : Dp K H x d := by
  cases h with
  | non => exact .non
  | bl b => exact .bl b
  | int n => exact .int n
  | str z => exact .str z
  | lst e ha _ => exact .lst (SqL.of e) ha
theorem El.eqW {K : PySem.W.Frag} {H : Hp} {x : V} {d : PyData} (h : El K H x d) (z : Str) : PyData.eqv d (.str z) = isW x z := by
  cases h with
  | str y => show (y == z) = decide (y = z); by_cases e : y = z <;> simp [e]
  | _ => rfl
/-- an item of a list or a tuple -/
def rIxA (K : PySem.W.Frag) : R2 := fun x y H Q => rIxL K x y H Q ∨ rIxT K x y H Q
theorem ix_any {X : L2.Cx} : IxR X (rIxA X.K) := by
  intro a b pins s σ H x y v u Q I rx ry h hp
  rcases h with h | h
  · exact ix_list a b pins s σ H x y v u Q I rx ry h hp
  · exact ix_tup a b pins s σ H x y v u Q I rx ry h hp
theorem ixA_of {K : PySem.W.Frag} {H : Hp} {a : Addr} {xs : List V} {i : Int} {v : V} {Q : VK} (h : SqA H a xs) (e : atI xs i = some v) (k : Q v H) : rIxA K (.ref a) (.int i) H Q := by
  rcases h with h | h
  · exact .inl ⟨a, xs, i, v, rfl, rfl, SqL.of h, e, k⟩
  · exact .inr ⟨a, xs, i, v, rfl, rfl, SqT.of h, e, k⟩
theorem truA {K : PySem.W.Frag} {H : Hp} {a : Addr} {xs : List V} (h : SqA H a xs) : TruV K (.ref a) H (!xs.isEmpty) := by
  rcases h with h | h
  · exact .inl ⟨xs, SqL.of h, rfl⟩
  · exact .inr (.inl ⟨xs, SqT.of h, rfl⟩)
theorem lenA {K : PySem.W.Frag} {H : Hp} {a : Addr} {xs : List V} (h : SqA H a xs) : SqL K H a xs ∨ SqT K H a xs := by
  rcases h with h | h
  · exact .inl (SqL.of h)
  · exact .inr (SqT.of h)
section
variable {P : Program} {w : World} {K : PySem.W.Frag} {mg : Str → Option Value} {base : Heap}
/-! ### is_whole of any thing -/
def spWhD (K : PySem.W.Frag) : Sp := fun vs H Q _ => ∃ (x : V) (d : PyData), vs = [x] ∧ El K H x d ∧ Q (.bl (match x with | .int _ => true | _ => false)) H
theorem kp_whD (F : At K mg "is_whole" s_whole) (N : Nb mg) : Keeps CX0 P w K mg base "is_whole" 1 ["thing"] (spWhD K) := by
  refine keeps_of F sc_whole (fun _ _ _ _ _ _ us hl => match us, hl with | [_], _ => rfl) (fun vs H Q E h => ?_) (fun f cdv A outer s H vs Q E hr h => ?_)
  · obtain ⟨x, d, rfl, _⟩ := h
    rfl
  · obtain ⟨x, d, rfl, hx, k⟩ := h
    refine ⟨_, (pss_one (ps_ret (pe_and (pe_callB call_isi (by rfl) N.isinstance boot_isinstance (pa_cons (pv 0) (pa_cons (pe_bltn (v := .ty "int") (by rfl) N.int (by decide +kernel) rfl) pa_nil))) (pe_one (pe_not (pe_callB call_isi (by rfl) N.isinstance boot_isinstance (pa_cons (pv 0) (pa_cons (pe_bltn (v := .ty "bool") (by rfl) N.bool (by decide +kernel) rfl) pa_nil)))))))), ?_⟩
    cases hx with
    | int a =>
      refine ⟨_, rfl, .int a, .ty "int", _, _, true, rfl, .ty "int", .base (.int a), kit_ty (by decide +kernel), _, rfl, ?_⟩
      exact ⟨_, rfl, .int a, .ty "bool", _, _, false, rfl, .ty "bool", .base (.int a), kit_ty (by decide +kernel), _, rfl, k⟩
    | bl b =>
      refine ⟨_, rfl, .bl b, .ty "int", _, _, true, rfl, .ty "int", .base (.bl b), kit_ty (by decide +kernel), _, rfl, ?_⟩
      exact ⟨_, rfl, .bl b, .ty "bool", _, _, true, rfl, .ty "bool", .base (.bl b), kit_ty (by decide +kernel), _, rfl, k⟩
    | non => exact ⟨_, rfl, .non, .ty "int", _, _, false, rfl, .ty "int", .base .non, kit_ty (by decide +kernel), _, rfl, k⟩
    | str z => exact ⟨_, rfl, .str z, .ty "int", _, _, false, rfl, .ty "int", .base (.str z), kit_ty (by decide +kernel), _, rfl, k⟩
    | lst e _ _ => exact ⟨_, rfl, _, .ty "int", _, _, false, rfl, .ty "int", .base (.lst e), kit_ty (by decide +kernel), _, rfl, k⟩
def spWfD (K : PySem.W.Frag) : Sp := fun vs H Q _ => ∃ (x : V) (d : PyData) (lo hi : Int), vs = [x, .int lo, .int hi] ∧ El K H x d ∧ Q (.bl (wD lo hi x)) H
theorem kp_wfD (F : At K mg "is_whole_from" s_wholeF) (G : Keeps CX0 P w K mg base "is_whole" 1 ["thing"] (spWhD K)) : Keeps CX0 P w K mg base "is_whole_from" 2 ["thing", "low", "high"] (spWfD K) := by
  refine keeps_of F sc_wholeF (fun _ _ _ _ _ _ us hl => match us, hl with | [_, _, _], _ => rfl) (fun vs H Q E h => ?_) (fun f cdv A outer s H vs Q E hr h => ?_)
  · obtain ⟨x, d, lo, hi, rfl, _⟩ := h
    rfl
  · obtain ⟨x, d, lo, hi, rfl, hx, k⟩ := h
    refine ⟨_, (pss_one (ps_ret (pe_and (pe_k G hr (by rfl) pass0 (pa_cons (pv 0) pa_nil)) (pe_one (pe_chain op_le op_le (pv 1) (pv 0) (pv 2)))))), ?_⟩
    refine ⟨_, rfl, x, d, rfl, hx, _, rfl, ?_⟩
    cases hx with
    | int a =>
      refine ⟨_, rfl, _, rfl, _, _, rfl, rfl, _, rfl, ?_⟩
      have k : Q (.bl (decide (lo ≤ a) && decide (a ≤ hi))) H := k
      by_cases h1 : lo ≤ a
      · rw [decide_eq_true h1] at k ⊢
        exact ⟨_, rfl, _, _, rfl, rfl, k⟩
      · rw [decide_eq_false h1] at k ⊢
        exact k
    | bl b => exact k
    | non => exact k
    | str z => exact k
    | lst e _ _ => exact k
/-! ### is_sequence of any thing -/
/-- a thing that is no list and no tuple -/
def Flat (x : V) : Prop := x = .non ∨ (∃ n, x = .int n) ∨ ∃ z, x = .str z
def spSeqD : Sp := fun vs H Q _ => (∃ a xs, vs = [.ref a] ∧ SqA H a xs ∧ ∀ H', Same H H' → Q (.bl true) H') ∨ ∃ x, vs = [x] ∧ Flat x ∧ ∀ H', Same H H' → Q (.bl false) H'
theorem kp_seqD (F : At K mg "is_sequence" s_seq) (N : Nb mg) : Keeps CX0 P w K mg base "is_sequence" 1 ["thing"] spSeqD := by
  refine keeps_of F sc_seq (fun _ _ _ _ _ _ us hl => match us, hl with | [_], _ => rfl) (fun vs H Q E h => ?_) (fun f cdv A outer s H vs Q E hr h => ?_)
  · rcases h with ⟨a, xs, rfl, _⟩ | ⟨x, rfl, _⟩ <;> rfl
  · obtain ⟨v, rfl⟩ : ∃ v, vs = [v] := by
      rcases h with ⟨a, xs, rfl, _⟩ | ⟨x, rfl, _⟩
      · exact ⟨_, rfl⟩
      · exact ⟨_, rfl⟩
    refine ⟨_, (pss_one (ps_ret (pe_callB call_isiT (by rfl) N.isinstance boot_isinstance (pa_cons (pv 0) (pa_cons (pe_tup (pa_cons (pe_bltn (v := .ty "list") (by rfl) N.list (by decide +kernel) rfl) (pa_cons (pe_bltn (v := .ty "tuple") (by rfl) N.tuple (by decide +kernel) rfl) pa_nil))) pa_nil))))), ?_⟩
    refine ⟨_, rfl, ⟨(by show 2 ≤ sizeLine; decide), fun t ht => ?_⟩⟩
    have s1 := same_new (o := .tup [V.ty "list", V.ty "tuple"]) (Same.refl H) ht
    rcases h with ⟨a, xs, ev, hs, k⟩ | ⟨x, ev, hx, k⟩
    · cases ev
      rcases hs with hs | hs
      · exact ⟨.ref a, t, [.ty "list", .ty "tuple"], _, _, true, rfl, upd_same, .cons (.ty _) (.cons (.ty _) .nil), .base (.lst (s1 _ _ hs)), kitAny_cons (b := true) (kit_ty (by decide +kernel)) (fun z => nomatch z) (fun _ => rfl), k _ s1⟩
      · exact ⟨.ref a, t, [.ty "list", .ty "tuple"], _, _, true, rfl, upd_same, .cons (.ty _) (.cons (.ty _) .nil), .base (.tup (s1 _ _ hs)), kitAny_cons (b := false) (kit_ty (by decide +kernel)) (fun _ => kitAny_cons (b := true) (kit_ty (by decide +kernel)) (fun z => nomatch z) (fun _ => rfl)) (fun z => nomatch z), k _ s1⟩
    · cases ev
      rcases hx with rfl | ⟨n, rfl⟩ | ⟨z, rfl⟩
      · exact ⟨_, t, [.ty "list", .ty "tuple"], _, _, false, rfl, upd_same, .cons (.ty _) (.cons (.ty _) .nil), .base .non, kitAny_cons (b := false) (kit_ty (by decide +kernel)) (fun _ => kitAny_cons (b := false) (kit_ty (by decide +kernel)) (fun _ => rfl) (fun z => nomatch z)) (fun z => nomatch z), k _ s1⟩
      · exact ⟨_, t, [.ty "list", .ty "tuple"], _, _, false, rfl, upd_same, .cons (.ty _) (.cons (.ty _) .nil), .base (.int n), kitAny_cons (b := false) (kit_ty (by decide +kernel)) (fun _ => kitAny_cons (b := false) (kit_ty (by decide +kernel)) (fun _ => rfl) (fun z => nomatch z)) (fun z => nomatch z), k _ s1⟩
      · exact ⟨_, t, [.ty "list", .ty "tuple"], _, _, false, rfl, upd_same, .cons (.ty _) (.cons (.ty _) .nil), .base (.str z), kitAny_cons (b := false) (kit_ty (by decide +kernel)) (fun _ => kitAny_cons (b := false) (kit_ty (by decide +kernel)) (fun _ => rfl) (fun z => nomatch z)) (fun z => nomatch z), k _ s1⟩
end
end My
set_option Elab.async false
set_option linter.all false
set_option maxRecDepth 100000
set_option maxHeartbeats 8000000
namespace My
open PySem PySem.Spec PyProof.Rows L2
local macro_rules | `(tactic| walk_at "lv") => `(tactic| first | exact Or.inl rfl | exact Or.inr rfl)
theorem El.eqW' {K : PySem.W.Frag} {H : Hp} {x : V} {d : PyData} (h : El K H x d) (z : Str) : PyData.eqv (.str z) d = isW x z := by
  cases h with
  | str y =>
    show (z == y) = decide (y = z)
    rw [show (z == y) = decide (z = y) from by by_cases e : z = y <;> simp [e]]
    exact dec_cong ⟨Eq.symm, Eq.symm⟩
  | _ => rfl
theorem at_head {x : V} {r : List V} : atI (x :: r) 0 = some x := atI_nat (j := 0) (xs := x :: r) rfl
theorem fitsL_turn {x : V} {r : List V} (h : isW x "turn" = true) : fitsL (x :: r) = r.isEmpty := by
  show (if isW x "turn" = true then r.isEmpty else _) = _
  rw [if_pos h]
theorem fitsL_len {x : V} {r : List V} (h : isW x "turn" = false) (hl : r.length ≠ 1) : fitsL (x :: r) = false := by
  match r, hl with
  | [], _ => show (if isW x "turn" = true then _ else false) = _; rw [h, if_neg Bool.false_ne_true]
  | [_], hl => exact absurd rfl hl
  | _ :: _ :: _, _ => show (if isW x "turn" = true then _ else false) = _; rw [h, if_neg Bool.false_ne_true]
theorem fitsL_mod {x y : V} (h : isW x "turn" = false) (h2 : isW x "mod" = true) : fitsL [x, y] = wD 1 6 y := by
  show (if isW x "turn" = true then _ else (if isW x "mod" = true then wD 1 6 y else _)) = _
  rw [h, if_neg Bool.false_ne_true, h2, if_pos rfl]
theorem fitsL_sa {x y : V} (h : isW x "turn" = false) (h2 : isW x "mod" = false) : fitsL [x, y] = ((isW x "set" || isW x "add") && wD (-20) 20 y) := by
  show (if isW x "turn" = true then _ else (if isW x "mod" = true then wD 1 6 y else _)) = _
  rw [h, if_neg Bool.false_ne_true, h2, if_neg Bool.false_ne_true]
theorem fitsT_rest {x y z : V} (h : isW x "rest" = true) : fitsT [x, y, z] = (wD 1 6 y && wD 0 (intOf y - 1) z) := by
  show (if isW x "rest" = true then (wD 1 6 y && wD 0 (intOf y - 1) z) else _) = _
  rw [if_pos h]
theorem fitsT_restN {x : V} {r : List V} (h : isW x "rest" = true) (hl : r.length ≠ 2) : fitsT (x :: r) = false := by
  match r, hl with
  | [], _ => show (if isW x "rest" = true then false else _) = _; rw [if_pos h]
  | [_], _ => show (if isW x "rest" = true then false else _) = _; rw [if_pos h]
  | [_, _], hl => exact absurd rfl hl
  | _ :: _ :: _ :: _, _ => show (if isW x "rest" = true then false else _) = _; rw [if_pos h]
theorem fitsT_bi {x y : V} (h : isW x "rest" = false) : fitsT [x, y] = ((isW x "below" || isW x "is") && wD (-20) 20 y) := by
  show (if isW x "rest" = true then _ else ((isW x "below" || isW x "is") && wD (-20) 20 y)) = _
  rw [h, if_neg Bool.false_ne_true]
theorem fitsT_len {x : V} {r : List V} (h : isW x "rest" = false) (hl : r.length ≠ 1) : fitsT (x :: r) = false := by
  match r, hl with
  | [], _ => show (if isW x "rest" = true then _ else false) = _; rw [h, if_neg Bool.false_ne_true]
  | [_], hl => exact absurd rfl hl
  | _ :: _ :: _, _ => show (if isW x "rest" = true then _ else false) = _; rw [h, if_neg Bool.false_ne_true]
/-- a thing's part that stays -/
def Fine (K : PySem.W.Frag) (H : Hp) (x : V) : Prop := ∃ d, El K H x d ∧ ∀ a xs, x = .ref a → H a = some (.lst xs) → ∀ y ∈ xs, (∃ n, y = .int n) ∨ ∃ z, y = .str z
theorem Fine.same {K : PySem.W.Frag} {H H' : Hp} {x : V} (s : Same H H') (h : Fine K H x) : Fine K H' x := by
  obtain ⟨d, e, f⟩ := h
  refine ⟨d, e.same s f, fun a xs hx hH => ?_⟩
  cases e with
  | lst e1 _ _ =>
    cases hx
    have e2 := s _ _ e1
    rw [hH] at e2
    cases e2
    exact f _ _ rfl e1
  | _ => cases hx
theorem fine_int {K : PySem.W.Frag} {H : Hp} (n : Int) : Fine K H (.int n) := ⟨_, .int n, fun _ _ z => nomatch z⟩
theorem fine_bl {K : PySem.W.Frag} {H : Hp} (b : Bool) : Fine K H (.bl b) := ⟨_, .bl b, fun _ _ z => nomatch z⟩
theorem fine_non {K : PySem.W.Frag} {H : Hp} : Fine K H .non := ⟨_, .non, fun _ _ z => nomatch z⟩
theorem fine_str {K : PySem.W.Frag} {H : Hp} (x : Str) (sh : SeqAt.shaped (.str x) = true) : Fine K H (.str x) := ⟨_, .str x sh, fun _ _ z => nomatch z⟩
section
variable {P : Program} {w : World} {K : PySem.W.Frag} {mg : Str → Option Value} {base : Heap}
/-! ### fits_letter, fits_test -/
def spFit (K : PySem.W.Frag) (f : List V → Bool) : Sp := fun vs H Q _ => ∃ x, vs = [x] ∧ ((Flat x ∧ ∀ H', Same H H' → Q (.bl false) H') ∨ ∃ a xs, x = .ref a ∧ SqA H a xs ∧ (∀ y ∈ xs, Fine K H y) ∧ ∀ H', Same H H' → Q (.bl (f xs)) H')
abbrev s_fl : Stmt := top 39
abbrev N_fl : List Str := ["letter"]
theorem sc_fl : FnScope N_fl ["letter"] (defScope s_fl) := ⟨rfl, rfl, rfl, by decide +kernel, rfl, by decide +kernel, by decide +kernel⟩
theorem vlen {n : Nat} {m : Int} : decide (V.int (n : Int) = V.int m) = decide ((n : Int) = m) := vint
theorem kp_fl (F : At K mg "fits_letter" s_fl) (N : Nb mg) (mM : ∃ t, mg "MOST" = some (.int 20 t)) (mR : ∃ t, mg "MOST_REST" = some (.int 6 t)) (Gs : Keeps CX0 P w K mg base "is_sequence" 1 ["thing"] spSeqD) (Gw : Keeps CX0 P w K mg base "is_whole_from" 2 ["thing", "low", "high"] (spWfD K)) :
    Keeps CX0 P w K mg base "fits_letter" 3 ["letter"] (spFit K fitsL) := by
  refine keeps_of F sc_fl (fun _ _ _ _ _ _ us hl => match us, hl with | [_], _ => rfl) (fun vs H Q E h => ?_) (fun f cdv A outer s H vs Q E hr h => ?_)
  · obtain ⟨x, rfl, _⟩ := h
    rfl
  · obtain ⟨x, rfl, h⟩ := h
    obtain ⟨tM, mM⟩ := mM
    obtain ⟨tR, mR⟩ := mR
    have h1 : Room 1 (A.deeper (envOfC "fits_letter" (defScope s_fl) s.heap.objs.size f cdv)) := hr.mono (by decide)
    have hu65 : (A.deeper (envOfC "fits_letter" (defScope s_fl) s.heap.objs.size f cdv)).units + 65 < cLine := by have := hr.un; omega
    refine ⟨_, (pss_cons (ps_if (PW.pt (pw_or (pt_not (pt_val (pe_k Gs h1 (by rfl) pass0 (pa_cons (pv 0) pa_nil)))) (pw_or1 (pt_not (pt_truth (pv 0) (by intro _; rfl)))))) (pss_one (ps_ret pe_bl)) pss_nil)
        (pss_cons (ps_if (pt_cmpR (op_eqD hr.units) (pe_ix ix_any (pv 0) pe_int (fun _ _ => rfl)) pe_str (nomark _)) (pss_one (ps_ret (pe_cmpR op_eq (pe_callB call_len_seq (by rfl) N.len (by decide +kernel) (pa_cons (pv 0) pa_nil)) pe_int (nomark _)))) pss_nil)
        (pss_cons (ps_if (pt_cmpR op_ne (pe_callB call_len_seq (by rfl) N.len (by decide +kernel) (pa_cons (pv 0) pa_nil)) pe_int (nomark _)) (pss_one (ps_ret pe_bl)) pss_nil)
        (pss_cons (ps_if (pt_cmpR (op_eqD hr.units) (pe_ix ix_any (pv 0) pe_int (fun _ _ => rfl)) pe_str (nomark _)) (pss_one (ps_ret (pe_k Gw hr (by rfl) pass0 (pa_cons (pe_ix ix_any (pv 0) pe_int (fun _ _ => rfl)) (pa_cons pe_int (pa_cons (pe_glob (v := .int 6) (by rfl) mR ⟨_, rfl⟩) pa_nil)))))) pss_nil)
        (pss_one (ps_ret (pe_and (pe_cmpR (op_inT hu65) (pe_ix ix_any (pv 0) pe_int (fun _ _ => rfl)) (pe_tup (pa_cons pe_str (pa_cons pe_str pa_nil))) (by rfl)) (pe_one (pe_k Gw hr (by rfl) pass0 (pa_cons (pe_ix ix_any (pv 0) pe_int (fun _ _ => rfl)) (pa_cons (pe_un un_neg (pe_glob (v := .int 20) (by rfl) mM ⟨_, rfl⟩)) (pa_cons (pe_glob (v := .int 20) (by rfl) mM ⟨_, rfl⟩) pa_nil)))))))))))), ?_⟩
    rcases h with ⟨fx, k⟩ | ⟨a, xs, rfl, hs, fine, k⟩
    · exact ⟨_, rfl, .inr ⟨x, rfl, fx, fun H1 s1 => ⟨_, rfl, iteT (iteT (k H1 s1))⟩⟩⟩
    · refine ⟨_, rfl, .inl ⟨a, xs, rfl, hs, fun H1 s1 => ⟨_, rfl, iteF ⟨_, rfl, _, truA (hs.same s1), ?_⟩⟩⟩⟩
      have hs1 := hs.same s1
      cases xs with
      | nil => exact iteT (k H1 s1)
      | cons x r =>
        obtain ⟨d, e0, _⟩ := (fine x List.mem_cons_self).same s1
        refine iteF ⟨_, rfl, ixA_of hs1 at_head ⟨d, _, e0.dp, .str _, e0.shaped, by decide +kernel, _, rfl, ?_⟩⟩
        rw [e0.eqW]
        have kk := k H1 s1
        cases ew : isW x "turn" with
        | true =>
          rw [fitsL_turn ew] at kk
          refine iteT ⟨_, rfl, a, _, rfl, lenA hs1, rfl, ?_⟩
          rw [vint]
          cases r with
          | nil => exact kk
          | cons y t =>
            rw [decide_eq_false (by rw [List.length_cons, List.length_cons]; omega)]
            exact kk
        | false =>
          refine iteF ⟨_, rfl, a, _, rfl, lenA hs1, rfl, _, rfl, ?_⟩
          rw [vint]
          by_cases hl : r.length = 1
          · obtain ⟨y, rfl⟩ : ∃ y, r = [y] := match r, hl with | [y], _ => ⟨y, rfl⟩
            obtain ⟨d1, e1, _⟩ := (fine y (List.mem_cons_of_mem _ List.mem_cons_self)).same s1
            refine iteF ⟨_, rfl, ixA_of hs1 rfl ⟨d, _, e0.dp, .str _, e0.shaped, by decide +kernel, _, rfl, ?_⟩⟩
            rw [e0.eqW]
            cases em : isW x "mod" with
            | true =>
              rw [fitsL_mod ew em] at kk
              exact iteT ⟨_, rfl, ixA_of hs1 rfl ⟨y, d1, 1, 6, rfl, e1, kk⟩⟩
            | false =>
              refine iteF ⟨_, rfl, ixA_of hs1 rfl ⟨(by show 2 ≤ sizeLine; decide), fun t ht => ?_⟩⟩
              have s2 := same_new (o := .tup [V.str "set", V.str "add"]) (Same.refl H1) ht
              obtain ⟨d', e0', _⟩ := (fine x List.mem_cons_self).same (s1.trans s2)
              obtain ⟨d2, e2, _⟩ := (fine y (List.mem_cons_of_mem _ List.mem_cons_self)).same (s1.trans s2)
              have k4 := k _ (s1.trans s2)
              rw [fitsL_sa ew em] at k4
              refine ⟨d', [.str "set", .str "add"], e0'.dp, .tup (SqT.of upd_same) (.cons (.str _) (.cons (.str _) .nil)), e0'.shaped, by decide +kernel, _, rfl, ?_⟩
              rw [show (([.str "set", .str "add"] : List PyData).any fun z => PyData.eqv z d') = (isW x "set" || isW x "add") from by
                show (PyData.eqv (.str "set") d' || (PyData.eqv (.str "add") d' || false)) = _
                rw [e0'.eqW', e0'.eqW', Bool.or_false]]
              cases eo : (isW x "set" || isW x "add") with
              | false =>
                rw [eo] at k4
                exact iteF k4
              | true =>
                rw [eo] at k4
                exact iteT ⟨_, rfl, ixA_of (hs1.same s2) rfl ⟨_, rfl, y, d2, -20, 20, rfl, e2, k4⟩⟩
          · rw [fitsL_len ew hl] at kk
            rw [decide_eq_false (by rw [List.length_cons]; omega)]
            exact iteT kk
abbrev s_ft : Stmt := top 40
abbrev N_ft : List Str := ["test"]
theorem sc_ft : FnScope N_ft ["test"] (defScope s_ft) := ⟨rfl, rfl, rfl, by decide +kernel, rfl, by decide +kernel, by decide +kernel⟩
theorem kp_ft (F : At K mg "fits_test" s_ft) (N : Nb mg) (mM : ∃ t, mg "MOST" = some (.int 20 t)) (mR : ∃ t, mg "MOST_REST" = some (.int 6 t)) (Gs : Keeps CX0 P w K mg base "is_sequence" 1 ["thing"] spSeqD) (Gw : Keeps CX0 P w K mg base "is_whole_from" 2 ["thing", "low", "high"] (spWfD K)) :
    Keeps CX0 P w K mg base "fits_test" 3 ["test"] (spFit K fitsT) := by
  refine keeps_of F sc_ft (fun _ _ _ _ _ _ us hl => match us, hl with | [_], _ => rfl) (fun vs H Q E h => ?_) (fun f cdv A outer s H vs Q E hr h => ?_)
  · obtain ⟨x, rfl, _⟩ := h
    rfl
  · obtain ⟨x, rfl, h⟩ := h
    obtain ⟨tM, mM⟩ := mM
    obtain ⟨tR, mR⟩ := mR
    have h1 : Room 1 (A.deeper (envOfC "fits_test" (defScope s_ft) s.heap.objs.size f cdv)) := hr.mono (by decide)
    have hu65 : (A.deeper (envOfC "fits_test" (defScope s_ft) s.heap.objs.size f cdv)).units + 65 < cLine := by have := hr.un; omega
    refine ⟨_, (pss_cons (ps_if (PW.pt (pw_or (pt_not (pt_val (pe_k Gs h1 (by rfl) pass0 (pa_cons (pv 0) pa_nil)))) (pw_or1 (pt_not (pt_truth (pv 0) (by intro _; rfl)))))) (pss_one (ps_ret pe_bl)) pss_nil)
        (pss_cons (ps_if (pt_cmpR (op_eqD hr.units) (pe_ix ix_any (pv 0) pe_int (fun _ _ => rfl)) pe_str (nomark _)) (pss_one (ps_ret (pe_and (pe_cmpR op_eq (pe_callB call_len_seq (by rfl) N.len (by decide +kernel) (pa_cons (pv 0) pa_nil)) pe_int (nomark _)) (pe_and (pe_k Gw hr (by rfl) pass0 (pa_cons (pe_ix ix_any (pv 0) pe_int (fun _ _ => rfl)) (pa_cons pe_int (pa_cons (pe_glob (v := .int 6) (by rfl) mR ⟨_, rfl⟩) pa_nil)))) (pe_one (pe_k Gw hr (by rfl) pass0 (pa_cons (pe_ix ix_any (pv 0) pe_int (fun _ _ => rfl)) (pa_cons pe_int (pa_cons (pe_op op_sub (pe_ix ix_any (pv 0) pe_int (fun _ _ => rfl)) pe_int) pa_nil))))))))) pss_nil)
        (pss_one (ps_ret (pe_and (pe_cmpR op_eq (pe_callB call_len_seq (by rfl) N.len (by decide +kernel) (pa_cons (pv 0) pa_nil)) pe_int (nomark _)) (pe_and (pe_cmpR (op_inT hu65) (pe_ix ix_any (pv 0) pe_int (fun _ _ => rfl)) (pe_tup (pa_cons pe_str (pa_cons pe_str pa_nil))) (by rfl)) (pe_one (pe_k Gw hr (by rfl) pass0 (pa_cons (pe_ix ix_any (pv 0) pe_int (fun _ _ => rfl)) (pa_cons (pe_un un_neg (pe_glob (v := .int 20) (by rfl) mM ⟨_, rfl⟩)) (pa_cons (pe_glob (v := .int 20) (by rfl) mM ⟨_, rfl⟩) pa_nil))))))))))), ?_⟩
    rcases h with ⟨fx, k⟩ | ⟨a, xs, rfl, hs, fine, k⟩
    · exact ⟨_, rfl, .inr ⟨x, rfl, fx, fun H1 s1 => ⟨_, rfl, iteT (iteT (k H1 s1))⟩⟩⟩
    · refine ⟨_, rfl, .inl ⟨a, xs, rfl, hs, fun H1 s1 => ⟨_, rfl, iteF ⟨_, rfl, _, truA (hs.same s1), ?_⟩⟩⟩⟩
      have hs1 := hs.same s1
      cases xs with
      | nil => exact iteT (k H1 s1)
      | cons x r =>
        obtain ⟨d, e0, _⟩ := (fine x List.mem_cons_self).same s1
        refine iteF ⟨_, rfl, ixA_of hs1 at_head ⟨d, _, e0.dp, .str _, e0.shaped, by decide +kernel, _, rfl, ?_⟩⟩
        rw [e0.eqW]
        have kk := k H1 s1
        cases ew : isW x "rest" with
        | true =>
          refine iteT ⟨_, rfl, a, _, rfl, lenA hs1, rfl, _, rfl, ?_⟩
          rw [vint]
          by_cases hl : r.length = 2
          · obtain ⟨y, z, rfl⟩ : ∃ y z, r = [y, z] := match r, hl with | [y, z], _ => ⟨y, z, rfl⟩
            obtain ⟨d1, e1, _⟩ := (fine y (List.mem_cons_of_mem _ List.mem_cons_self)).same s1
            obtain ⟨d2, e2, _⟩ := (fine z (List.mem_cons_of_mem _ (List.mem_cons_of_mem _ List.mem_cons_self))).same s1
            rw [fitsT_rest ew] at kk
            refine iteT ⟨_, rfl, ixA_of hs1 rfl ⟨y, d1, 1, 6, rfl, e1, _, rfl, ?_⟩⟩
            cases e1 with
            | int n =>
              cases ey : wD 1 6 (.int n) with
              | false =>
                rw [ey] at kk
                exact iteF kk
              | true =>
                rw [ey] at kk
                exact iteT ⟨_, rfl, ixA_of hs1 rfl ⟨_, rfl, ixA_of hs1 rfl ⟨_, _, rfl, rfl, z, d2, 0, n - 1, rfl, e2, kk⟩⟩⟩
            | non => exact iteF kk
            | bl b => exact iteF kk
            | str u _ => exact iteF kk
            | lst _ _ _ => exact iteF kk
          · rw [fitsT_restN ew hl] at kk
            rw [decide_eq_false (by rw [List.length_cons]; omega)]
            exact iteF kk
        | false =>
          refine iteF ⟨_, rfl, a, _, rfl, lenA hs1, rfl, _, rfl, ?_⟩
          rw [vint]
          by_cases hl : r.length = 1
          · obtain ⟨y, rfl⟩ : ∃ y, r = [y] := match r, hl with | [y], _ => ⟨y, rfl⟩
            refine iteT ⟨_, rfl, ixA_of hs1 rfl ⟨(by show 2 ≤ sizeLine; decide), fun t ht => ?_⟩⟩
            have s2 := same_new (o := .tup [V.str "below", V.str "is"]) (Same.refl H1) ht
            obtain ⟨d', e0', _⟩ := (fine x List.mem_cons_self).same (s1.trans s2)
            obtain ⟨d2, e2, _⟩ := (fine y (List.mem_cons_of_mem _ List.mem_cons_self)).same (s1.trans s2)
            have k4 := k _ (s1.trans s2)
            rw [fitsT_bi ew] at k4
            refine ⟨d', [.str "below", .str "is"], e0'.dp, .tup (SqT.of upd_same) (.cons (.str _) (.cons (.str _) .nil)), e0'.shaped, by decide +kernel, _, rfl, ?_⟩
            rw [show (([.str "below", .str "is"] : List PyData).any fun z => PyData.eqv z d') = (isW x "below" || isW x "is") from by
              show (PyData.eqv (.str "below") d' || (PyData.eqv (.str "is") d' || false)) = _
              rw [e0'.eqW', e0'.eqW', Bool.or_false]]
            cases eo : (isW x "below" || isW x "is") with
            | false =>
              rw [eo] at k4
              exact iteF k4
            | true =>
              rw [eo] at k4
              exact iteT ⟨_, rfl, ixA_of (hs1.same s2) rfl ⟨_, rfl, y, d2, -20, 20, rfl, e2, k4⟩⟩
          · rw [fitsT_len ew hl] at kk
            rw [decide_eq_false (by rw [List.length_cons]; omega)]
            exact iteF kk
end
end My
set_option Elab.async false
set_option linter.all false
set_option maxRecDepth 100000
set_option maxHeartbeats 8000000
namespace My
open PySem PySem.Spec PyProof.Rows L2
local macro_rules | `(tactic| walk_at "lv") => `(tactic| first | exact Or.inl rfl | exact Or.inr rfl)
/-! ### X() raised, isinstance of it -/
theorem pmk0 {X : L2.Cx} {x b : Str} {p pos : Pos} (T : ExF X.K X.mg x b []) (hg : Gl X x) (dbg : (x == ("__debug__" : Str)) = false := by decide) :
    PMk X (.Call (.Name x p) [] [] pos) (fun _ H Q => Q (.ref (He.ga X.K x)) none H) := by
  intro pins s σ H Q I h
  refine wpAny_Call_Name_kw (ld_glob I hg T.g ?_ dbg)
  refine PySem.W.callWith_K0 I.kIn T.kC ?_
  show wpAny _ _ (call (.ref (He.ga X.K x)) []) _ _ _
  obtain ⟨bm, N, nm, qn, bs, hdct, sn, sub, ab, col, dd, k0, k1, k2, k3, k5, mN, hC, hN, hni, TL⟩ := exc_obj I.kIn (T.new rfl)
  refine wpAny_call_exc_subT PySem.F.excBase_ValueError TL hC hN hni (fun h' a hm => ?_) (by show 0 ≤ sizeLine; exact Nat.zero_le _)
  exact mk_of I hm (raises_own T.exC T.ty) h (I.hok.gone hm.new)
def rIsE0 (K : PySem.W.Frag) (D a : Addr) (cls : Value) (d : Option Addr) : List V → Hp → VK → Prop := fun xs H Q => cls = .ref D ∧ d = none ∧ rIsE K D a xs H Q
theorem call_isE0 {X : L2.Cx} {a D : Addr} {oe : Obj} {cls : Value} {d : Option Addr} {pn : List (Addr × Obj)} (C : ExcC X.K D) (hz : Zc cls d oe) (hf : ∃ vs, oe.data = .fields vs) : CallR (X.suite a ((a, oe) :: pn)) (.builtin "isinstance") (rIsE0 X.K D a cls d) := by
  intro pns s σ H xs us Q I r h
  obtain ⟨rfl, rfl, h⟩ := h
  exact call_isE C hz hf pns s σ H xs us Q I r h
/-- what the told things ask of an error class -/
structure Err0 (K : PySem.W.Frag) (mg : Str → Option Value) (x y : Str) : Prop where
  f : ExF K mg x "BookError" []
  c : ExcC K (He.ga K x)
  xm : PySem.W.exmOne K (.ref (He.ga K x)) (.ref (He.ga K x)) = some true
  no : PySem.W.kitOne K (.ref (He.ga K x)) (.ref (He.ga K y)) = some false
  gy : mg y = some (.ref (He.ga K y))
  gb : mg "BookError" = some (.ref (He.ga K "BookError"))
section
variable {P : Program} {w : World} {K : PySem.W.Frag} {mg : Str → Option Value} {base : Heap}
/-! ### check_letter, check_test -/
def spChk (K : PySem.W.Frag) (f : List V → Bool) (e : Str) : Sp := fun vs H Q E => ∃ x, vs = [x] ∧ ((Flat x ∧ ∀ H', Same H H' → E (.ref (He.ga K e)) none H') ∨ ∃ a xs, x = .ref a ∧ SqA H a xs ∧ (∀ y ∈ xs, Fine K H y) ∧
  (f xs = false → ∀ H', Same H H' → E (.ref (He.ga K e)) none H') ∧ (f xs = true → ∀ q H', Same H H' → H' q = some (.tup xs) → Q (.ref q) H'))
abbrev s_cl : Stmt := top 41
abbrev N_cl : List Str := ["letter"]
theorem sc_cl : FnScope N_cl ["letter"] (defScope s_cl) := ⟨rfl, rfl, rfl, by decide +kernel, rfl, by decide +kernel, by decide +kernel⟩
theorem chk_walk {K : PySem.W.Frag} {a : Addr} {xs : List V} {H H1 : Hp} {Q : VK} (hs : SqA H a xs) (s1 : Same H H1) (k : ∀ q H', Same H H' → H' q = some (.tup xs) → Q (.ref q) H') :
    ∃ p ys, ([V.ref a] : List V) = [.ref p] ∧ ((SqL K H1 p ys ∧ ∀ l, H1 l = none → Q (.ref l) (upd H1 l (.tup ys))) ∨ (SqT K H1 p ys ∧ Q (.ref p) H1)) := by
  rcases hs with hs | hs
  · exact ⟨a, xs, rfl, .inl ⟨SqL.of (s1 _ _ hs), fun l hl => k l _ (same_new s1 hl) upd_same⟩⟩
  · exact ⟨a, xs, rfl, .inr ⟨SqT.of (s1 _ _ hs), k a _ s1 (s1 _ _ hs)⟩⟩
theorem kp_cl (F : At K mg "check_letter" s_cl) (N : Nb mg) (T : Err0 K mg "BadLetter" "BadTest") (Gf : Keeps CX0 P w K mg base "fits_letter" 3 ["letter"] (spFit K fitsL)) : Keeps (CX P w) P w K mg base "check_letter" 4 ["letter"] (spChk K fitsL "BadLetter") := by
  refine keeps_ofX F sc_cl (fun _ _ _ _ _ _ us hl => match us, hl with | [_], _ => rfl) (fun vs H Q E h => ?_) (fun f cdv A outer s H vs Q E hr h => ?_)
  · obtain ⟨x, rfl, _⟩ := h
    rfl
  · obtain ⟨x, rfl, h⟩ := h
    refine ⟨_, (pss_cons (ps_if (pt_not (pt_val (pe_k Gf hr (by rfl) pass0 (pa_cons (pv 0) pa_nil)))) (pss_one (ps_raise rfl (takes_of rfl rfl rfl rfl) (pmk0 T.f (by rfl)))) pss_nil)
        (pss_one (ps_ret (pe_callTy call_tuple_of (by rfl) N.tuple (by decide +kernel) (pa_cons (pv 0) pa_nil))))), ?_⟩
    rcases h with ⟨fx, k⟩ | ⟨a, xs, rfl, hs, fine, kf, kt⟩
    · exact ⟨_, rfl, x, rfl, .inl ⟨fx, fun H1 s1 => ⟨_, rfl, iteT (k H1 s1)⟩⟩⟩
    · refine ⟨_, rfl, _, rfl, .inr ⟨a, xs, rfl, hs, fine, fun H1 s1 => ⟨_, rfl, ?_⟩⟩⟩
      cases e : fitsL xs with
      | false => exact iteT (kf e H1 s1)
      | true => exact iteF ⟨_, rfl, chk_walk hs s1 (kt e)⟩
abbrev s_ct : Stmt := top 42
abbrev N_ct : List Str := ["test"]
theorem sc_ct : FnScope N_ct ["test"] (defScope s_ct) := ⟨rfl, rfl, rfl, by decide +kernel, rfl, by decide +kernel, by decide +kernel⟩
theorem kp_ct (F : At K mg "check_test" s_ct) (N : Nb mg) (T : Err0 K mg "BadTest" "BadLetter") (Gf : Keeps CX0 P w K mg base "fits_test" 3 ["test"] (spFit K fitsT)) : Keeps (CX P w) P w K mg base "check_test" 4 ["test"] (spChk K fitsT "BadTest") := by
  refine keeps_ofX F sc_ct (fun _ _ _ _ _ _ us hl => match us, hl with | [_], _ => rfl) (fun vs H Q E h => ?_) (fun f cdv A outer s H vs Q E hr h => ?_)
  · obtain ⟨x, rfl, _⟩ := h
    rfl
  · obtain ⟨x, rfl, h⟩ := h
    refine ⟨_, (pss_cons (ps_if (pt_not (pt_val (pe_k Gf hr (by rfl) pass0 (pa_cons (pv 0) pa_nil)))) (pss_one (ps_raise rfl (takes_of rfl rfl rfl rfl) (pmk0 T.f (by rfl)))) pss_nil)
        (pss_one (ps_ret (pe_callTy call_tuple_of (by rfl) N.tuple (by decide +kernel) (pa_cons (pv 0) pa_nil))))), ?_⟩
    rcases h with ⟨fx, k⟩ | ⟨a, xs, rfl, hs, fine, kf, kt⟩
    · exact ⟨_, rfl, x, rfl, .inl ⟨fx, fun H1 s1 => ⟨_, rfl, iteT (k H1 s1)⟩⟩⟩
    · refine ⟨_, rfl, _, rfl, .inr ⟨a, xs, rfl, hs, fine, fun H1 s1 => ⟨_, rfl, ?_⟩⟩⟩
      cases e : fitsT xs with
      | false => exact iteT (kf e H1 s1)
      | true => exact iteF ⟨_, rfl, chk_walk hs s1 (kt e)⟩
/-! ### _law_letter_told, _law_test_told -/
def spTold (K : PySem.W.Frag) (f : List V → Bool) : Sp := fun vs H Q _ => ∃ x, vs = [x] ∧ ((Flat x ∧ ∀ q H', Same H H' → H' q = some (.lst [.str "bad", .bl true, .bl false]) → Q (.ref q) H') ∨ ∃ a xs, x = .ref a ∧ SqA H a xs ∧ (∀ y ∈ xs, Fine K H y) ∧
  (f xs = false → ∀ q H', Same H H' → H' q = some (.lst [.str "bad", .bl true, .bl false]) → Q (.ref q) H') ∧ (f xs = true → ∀ q t H', Same H H' → H' t = some (.tup xs) → H' q = some (.lst [.str "good", .ref t]) → Q (.ref q) H'))
abbrev s_lto : Stmt := top 68
abbrev N_lto : List Str := ["_law_letter_here", "_law_told", "raised"]
theorem sc_lto : FnScope N_lto ["_law_letter_here"] (defScope s_lto) := ⟨rfl, rfl, rfl, by decide +kernel, rfl, by decide +kernel, by decide +kernel⟩
def tTolS (K : PySem.W.Frag) (C : Addr) (D2 : Addr) (a : Addr) (cls : Value) (d : Option Addr) : TS := tRet (tLst (tCons (tC (.str "bad")) (tCons (tCB (rIsE0 K C a cls d) (tCons (tVar 2) (tCons (tC (.ref (He.ga K "BookError"))) tNil))) (tCons (tCB (rIsE0 K C a cls d) (tCons (tVar 2) (tCons (tC (.ref D2)) tNil))) tNil))))
theorem kp_lto (F : At K mg "_law_letter_told" s_lto) (N : Nb mg) (T : Err0 K mg "BadLetter" "BadTest") (G : Keeps (CX P w) P w K mg base "check_letter" 4 ["letter"] (spChk K fitsL "BadLetter")) : Keeps CX0 P w K mg base "_law_letter_told" 5 ["_law_letter_here"] (spTold K fitsL) := by
  refine keeps_of F sc_lto (fun _ _ _ _ _ _ us hl => match us, hl with | [_], _ => rfl) (fun vs H Q E h => ?_) (fun f cdv A outer s H vs Q E hr h => ?_)
  · obtain ⟨x, rfl, _⟩ := h
    rfl
  · obtain ⟨x, rfl, h⟩ := h
    obtain ⟨fc, Fc, bc, kpc, mc⟩ := G
    refine ⟨_, (pss_cons (ps_try_as (i := 2) (tb := fun W => tAsg (tCallS (spChk K fitsL "BadLetter") (WE W) (tCons (tVar 0) tNil)) (gName 1)) (ts := fun a cls d => tTolS K (He.ga K "BadLetter") (He.ga K "BadTest") a cls d) (Wout := fun _ _ _ _ => False) rfl rfl sc_lto.nd rfl rfl ⟨(by rfl), by decide, .inl T.f.g⟩ takes0
      (fun W pn xe tk _ => pss_one (ps_set (i := 1) sc_lto.nd rfl (by walk_at "lv") (pe_callS Fc hr (by rfl) mc kpc bc (fun σ => passAt tk σ) (pa_cons (pv 0) pa_nil))))
      (fun a oe cls d pn hz hf => pss_one (ps_ret (pe_lst (pa_cons pe_str (pa_cons (pe_callB (call_isE0 T.c hz hf) (by rfl) N.isinstance boot_isinstance (pa_cons (pv 2) (pa_cons (pe_glob (v := .ref (He.ga K "BookError")) (by rfl) T.gb rfl) pa_nil))) (pa_cons (pe_callB (call_isE0 T.c hz hf) (by rfl) N.isinstance boot_isinstance (pa_cons (pv 2) (pa_cons (pe_glob (v := .ref (He.ga K "BadTest")) (by rfl) T.gy rfl) pa_nil))) pa_nil)))))))
        (pss_one (ps_ret (pe_lst (pa_cons pe_str (pa_cons (pv 1) pa_nil)))))), ?_⟩
    have bad : (∀ q H', Same H H' → H' q = some (.lst [.str "bad", .bl true, .bl false]) → Q (.ref q) H') → ∀ H', Same H H' → ∀ (D : Ends), D.rt = Q → ∀ a, tTolS K (He.ga K "BadLetter") (He.ga K "BadTest") a (.ref (He.ga K "BadLetter")) none D [some x, none, some (.ref a)] H' := fun k H' s1 D hD a => by
      refine ⟨_, rfl, rfl, rfl, .ref _, .ref _, true, rfl, fun u r => r, T.f.kB, _, rfl, rfl, rfl, .ref _, .ref _, false, rfl, fun u r => r, T.no, (by show 3 ≤ sizeLine; decide), fun q hq => ?_⟩
      show D.rt (.ref q) _
      rw [hD]
      exact k q _ (same_new s1 hq) upd_same
    rcases h with ⟨fx, k⟩ | ⟨a, xs, rfl, hs, fine, kf, kt⟩
    · exact ⟨_, rfl, x, rfl, .inl ⟨fx, fun H1 s1 => ⟨true, T.xm, fun _ b _ => bad k H1 s1 _ rfl b, fun z => nomatch z⟩⟩⟩
    · refine ⟨_, rfl, _, rfl, .inr ⟨a, xs, rfl, hs, fine, fun e H1 s1 => ⟨true, T.xm, fun _ b _ => bad (kf e) H1 s1 _ rfl b, fun z => nomatch z⟩, fun e t H1 s1 et => ?_⟩⟩
      refine ⟨_, rfl, (by show 2 ≤ sizeLine; decide), fun q hq => ?_⟩
      exact kt e q t _ (same_new s1 hq) (by rw [upd_ne (ne_of_none et hq)]; exact et) upd_same
abbrev s_tto : Stmt := top 69
abbrev N_tto : List Str := ["_law_test_here", "_law_told", "raised"]
theorem sc_tto : FnScope N_tto ["_law_test_here"] (defScope s_tto) := ⟨rfl, rfl, rfl, by decide +kernel, rfl, by decide +kernel, by decide +kernel⟩
theorem kp_tto (F : At K mg "_law_test_told" s_tto) (N : Nb mg) (T : Err0 K mg "BadTest" "BadLetter") (G : Keeps (CX P w) P w K mg base "check_test" 4 ["test"] (spChk K fitsT "BadTest")) : Keeps CX0 P w K mg base "_law_test_told" 5 ["_law_test_here"] (spTold K fitsT) := by
  refine keeps_of F sc_tto (fun _ _ _ _ _ _ us hl => match us, hl with | [_], _ => rfl) (fun vs H Q E h => ?_) (fun f cdv A outer s H vs Q E hr h => ?_)
  · obtain ⟨x, rfl, _⟩ := h
    rfl
  · obtain ⟨x, rfl, h⟩ := h
    obtain ⟨fc, Fc, bc, kpc, mc⟩ := G
    refine ⟨_, (pss_cons (ps_try_as (i := 2) (tb := fun W => tAsg (tCallS (spChk K fitsT "BadTest") (WE W) (tCons (tVar 0) tNil)) (gName 1)) (ts := fun a cls d => tTolS K (He.ga K "BadTest") (He.ga K "BadLetter") a cls d) (Wout := fun _ _ _ _ => False) rfl rfl sc_tto.nd rfl rfl ⟨(by rfl), by decide, .inl T.f.g⟩ takes0
      (fun W pn xe tk _ => pss_one (ps_set (i := 1) sc_tto.nd rfl (by walk_at "lv") (pe_callS Fc hr (by rfl) mc kpc bc (fun σ => passAt tk σ) (pa_cons (pv 0) pa_nil))))
      (fun a oe cls d pn hz hf => pss_one (ps_ret (pe_lst (pa_cons pe_str (pa_cons (pe_callB (call_isE0 T.c hz hf) (by rfl) N.isinstance boot_isinstance (pa_cons (pv 2) (pa_cons (pe_glob (v := .ref (He.ga K "BookError")) (by rfl) T.gb rfl) pa_nil))) (pa_cons (pe_callB (call_isE0 T.c hz hf) (by rfl) N.isinstance boot_isinstance (pa_cons (pv 2) (pa_cons (pe_glob (v := .ref (He.ga K "BadLetter")) (by rfl) T.gy rfl) pa_nil))) pa_nil)))))))
        (pss_one (ps_ret (pe_lst (pa_cons pe_str (pa_cons (pv 1) pa_nil)))))), ?_⟩
    have bad : (∀ q H', Same H H' → H' q = some (.lst [.str "bad", .bl true, .bl false]) → Q (.ref q) H') → ∀ H', Same H H' → ∀ (D : Ends), D.rt = Q → ∀ a, tTolS K (He.ga K "BadTest") (He.ga K "BadLetter") a (.ref (He.ga K "BadTest")) none D [some x, none, some (.ref a)] H' := fun k H' s1 D hD a => by
      refine ⟨_, rfl, rfl, rfl, .ref _, .ref _, true, rfl, fun u r => r, T.f.kB, _, rfl, rfl, rfl, .ref _, .ref _, false, rfl, fun u r => r, T.no, (by show 3 ≤ sizeLine; decide), fun q hq => ?_⟩
      show D.rt (.ref q) _
      rw [hD]
      exact k q _ (same_new s1 hq) upd_same
    rcases h with ⟨fx, k⟩ | ⟨a, xs, rfl, hs, fine, kf, kt⟩
    · exact ⟨_, rfl, x, rfl, .inl ⟨fx, fun H1 s1 => ⟨true, T.xm, fun _ b _ => bad k H1 s1 _ rfl b, fun z => nomatch z⟩⟩⟩
    · refine ⟨_, rfl, _, rfl, .inr ⟨a, xs, rfl, hs, fine, fun e H1 s1 => ⟨true, T.xm, fun _ b _ => bad (kf e) H1 s1 _ rfl b, fun z => nomatch z⟩, fun e t H1 s1 et => ?_⟩⟩
      refine ⟨_, rfl, (by show 2 ≤ sizeLine; decide), fun q hq => ?_⟩
      exact kt e q t _ (same_new s1 hq) (by rw [upd_ne (ne_of_none et hq)]; exact et) upd_same
end
end My
set_option Elab.async false
set_option linter.all false
set_option maxRecDepth 100000
set_option maxHeartbeats 8000000
namespace My
open PySem PySem.Spec PyProof.Rows L2
local macro_rules | `(tactic| walk_at "lv") => `(tactic| first | exact Or.inl rfl | exact Or.inr rfl)
theorem El.keep {K : PySem.W.Frag} {H H' : Hp} {x : V} {d : PyData} (h : El K H x d) (hf : ∀ a xs, x = .ref a → H a = some (.lst xs) → ∀ y ∈ xs, (∃ n, y = .int n) ∨ ∃ z, y = .str z) (s : ∀ a xs, x = .ref a → H a = some (.lst xs) → H' a = some (.lst xs)) : El K H' x d := by
  cases h with
  | non => exact .non
  | bl b => exact .bl b
  | int n => exact .int n
  | str z sh => exact .str z sh
  | lst e ha sh =>
    refine .lst (s _ _ rfl e) ?_ sh
    have q := hf _ _ rfl e
    clear hf sh e s
    rename_i a xs ds
    induction xs generalizing ds with
    | nil => cases ha; exact .nil
    | cons y ys ih =>
      cases ha with
      | cons h1 h2 =>
        refine .cons ?_ (ih h2 fun z hz => q z (List.mem_cons_of_mem _ hz))
        rcases q y List.mem_cons_self with ⟨n, rfl⟩ | ⟨z, rfl⟩
        · cases h1; exact .int n
        · cases h1; exact .str z
theorem Fine.but {K : PySem.W.Frag} {H H' : Hp} {p c : Addr} {x : V} (hh : HandC H p c) (b : But p H H') (h : Fine K H x) : Fine K H' x := by
  obtain ⟨d, e, f⟩ := h
  have kp : ∀ a xs, x = .ref a → H a = some (.lst xs) → H' a = some (.lst xs) := fun a xs hx hH => b _ _ (fun z => by
    obtain ⟨_, _, _, _, hp, _⟩ := hh
    have q := f a xs hx hH
    rw [z, hp] at hH
    cases hH
    rcases q _ List.mem_cons_self with ⟨_, q⟩ | ⟨_, q⟩ <;> cases q) hH
  refine ⟨d, e.keep f kp, fun a xs hx hH => ?_⟩
  cases e with
  | lst e1 _ _ =>
    cases hx
    have e2 := kp _ _ rfl e1
    rw [hH] at e2
    cases e2
    exact f _ _ rfl e1
  | _ => cases hx
theorem fine_lst {K : PySem.W.Frag} {H : Hp} {b : Addr} {xs : List V} {ds : List PyData} (e : H b = some (.lst xs)) (ha : DpAll K H xs ds) (sh : SeqAt.shaped (.list ds) = true) (f : ∀ y ∈ xs, (∃ n, y = .int n) ∨ ∃ z, y = .str z) : Fine K H (.ref b) :=
  ⟨_, .lst e ha sh, fun a ys hx hH => by cases hx; rw [e] at hH; cases hH; exact f⟩
/-- a thing that says no letter, no test -/
def Odd (K : PySem.W.Frag) (f : List V → Bool) (H : Hp) (x : V) : Prop := Flat x ∨ ∃ a xs, x = .ref a ∧ SqA H a xs ∧ (∀ y ∈ xs, Fine K H y) ∧ f xs = false ∧ ∀ c i j k, xs ≠ [.ref c, .int i, .int j, .int k]
theorem Odd.same {K : PySem.W.Frag} {f : List V → Bool} {H H' : Hp} {x : V} (s : Same H H') (h : Odd K f H x) : Odd K f H' x := by
  rcases h with h | ⟨a, xs, rfl, h1, h2, h3, h4⟩
  · exact .inl h
  · exact .inr ⟨a, xs, rfl, h1.same s, fun y hy => (h2 y hy).same s, h3, h4⟩
theorem Odd.but {K : PySem.W.Frag} {f : List V → Bool} {H H' : Hp} {p c : Addr} {x : V} (hh : HandC H p c) (b : But p H H') (h : Odd K f H x) : Odd K f H' x := by
  rcases h with h | ⟨a, xs, rfl, h1, h2, h3, h4⟩
  · exact .inl h
  · refine .inr ⟨a, xs, rfl, ?_, fun y hy => (h2 y hy).but hh b, h3, h4⟩
    rcases h1 with h1 | h1
    · exact .inl (b _ _ (fun z => by
        obtain ⟨_, _, _, _, hp, _⟩ := hh
        rw [z, hp] at h1
        cases h1
        exact h4 _ _ _ _ rfl) h1)
    · exact .inr (b _ _ (hh.nt h1) h1)
/-- a row of such things -/
def Odds (K : PySem.W.Frag) (f : List V → Bool) (H : Hp) (l : List V) : Prop := ∀ z ∈ l, Odd K f H z
theorem Odds.push {K : PySem.W.Frag} {f : List V → Bool} {H H' : Hp} {l : List V} {y : V} (h : Odds K f H l) (s : Same H H') (o : Odd K f H' y) : Odds K f H' (l ++ [y]) := fun z hz => by
  rcases List.mem_append.mp hz with q | q
  · exact (h z q).same s
  · rw [List.mem_singleton.mp q]
    exact o
theorem and_no {a b : Bool} (h : b = false) : (a && b) = false := by rw [h, Bool.and_false]
theorem wD_far {n : Int} (h : n < -20 ∨ 20 < n) : wD (-20) 20 (.int n) = false := by
  show (decide (-20 ≤ n) && decide (n ≤ 20)) = false
  rcases h with h | h
  · rw [decide_eq_false (by omega : ¬ -20 ≤ n), Bool.false_and]
  · rw [decide_eq_false (by omega : ¬ n ≤ 20), Bool.and_false]
theorem wD_far6 {n : Int} (h : n < -20 ∨ 20 < n) : wD 1 6 (.int n) = false := by
  show (decide (1 ≤ n) && decide (n ≤ 6)) = false
  rcases h with h | h
  · rw [decide_eq_false (by omega : ¬ 1 ≤ n), Bool.false_and]
  · rw [decide_eq_false (by omega : ¬ n ≤ 6), Bool.and_false]
theorem lw_t {wd : Str} (hw : wd = "set" ∨ wd = "add") : isW (.str wd) "turn" = false ∧ isW (.str wd) "mod" = false := by
  rcases hw with rfl | rfl <;> exact ⟨by decide +kernel, by decide +kernel⟩
theorem lw2 {wd : Str} {y : V} (hw : wd = "set" ∨ wd = "add") (h : wD (-20) 20 y = false) : fitsL [.str wd, y] = false := by
  rw [fitsL_sa (lw_t hw).1 (lw_t hw).2, h, Bool.and_false]
theorem lwn {wd : Str} {r : List V} (hw : wd = "set" ∨ wd = "add") (h : r.length ≠ 1) : fitsL (.str wd :: r) = false := fitsL_len (lw_t hw).1 h
theorem lt_t {wd : Str} (hw : wd = "below" ∨ wd = "is") : isW (.str wd) "rest" = false := by
  rcases hw with rfl | rfl <;> decide +kernel
theorem lt2 {wd : Str} {y : V} (hw : wd = "below" ∨ wd = "is") (h : wD (-20) 20 y = false) : fitsT [.str wd, y] = false := by
  rw [fitsT_bi (lt_t hw), h, Bool.and_false]
theorem ltn {wd : Str} {r : List V} (hw : wd = "below" ∨ wd = "is") (h : r.length ≠ 1) : fitsT (.str wd :: r) = false := fitsT_len (lt_t hw) h
theorem words_at {a b : Str} {i : Nat} {v : V} (h : ([.str a, .str b] : List V)[i]? = some v) : ∃ wd : Str, v = .str wd ∧ (wd = a ∨ wd = b) := by
  match i, h with
  | 0, h => cases h; exact ⟨a, rfl, .inl rfl⟩
  | 1, h => cases h; exact ⟨b, rfl, .inr rfl⟩
section
variable {P : Program} {w : World} {K : PySem.W.Frag} {mg : Str → Option Value} {base : Heap}
def spOdd (K : PySem.W.Frag) (f : List V → Bool) : Sp := fun vs H Q _ => ∃ p c, vs = [.ref p] ∧ HandC H p c ∧ ∀ x H', HandC H' p c → But p H H' → Odd K f H' x → Q x H'
abbrev s_ol : Stmt := top 70
abbrev N_ol : List Str := ["_law_hand_here", "_law_far", "_law_word"]
theorem sc_ol : FnScope N_ol ["_law_hand_here"] (defScope s_ol) := ⟨rfl, rfl, rfl, by decide +kernel, rfl, by decide +kernel, by decide +kernel⟩
theorem kp_ol (F : At K mg "_law_odd_letter" s_ol) (G : Keeps CX0 P w K mg base "_law_draw" 2 ["_law_hand_here", "_law_many"] spDraw) (Gp : Keeps CX0 P w K mg base "_law_pick" 3 ["_law_hand_here", "_law_things"] spPick) : Keeps CX0 P w K mg base "_law_odd_letter" 4 ["_law_hand_here"] (spOdd K fitsL) := by
  refine keeps_of F sc_ol (fun _ _ _ _ _ _ us hl => match us, hl with | [_], _ => rfl) (fun vs H Q E h => ?_) (fun f cdv A outer s H vs Q E hr h => ?_)
  · obtain ⟨p, c, rfl, _⟩ := h
    rfl
  · obtain ⟨p, c, rfl, hh, k⟩ := h
    have h2 : Room 2 (A.deeper (envOfC "_law_odd_letter" (defScope s_ol) s.heap.objs.size f cdv)) := hr.mono (by decide)
    refine ⟨_, (pss_cons (ps_set (i := 1) sc_ol.nd rfl (by walk_at "lv") (pe_op op_add pe_int (pe_k G h2 (by rfl) pass0 (pa_cons (pv 0) (pa_cons (pe_op op_pow pe_int pe_int) pa_nil)))))
      (pss_cons (ps_set (i := 2) sc_ol.nd rfl (by walk_at "lv") (pe_k Gp hr (by rfl) pass0 (pa_cons (pv 0) (pa_cons (pe_lst (pa_cons pe_str (pa_cons pe_str pa_nil))) pa_nil))))
      (pss_one (ps_ret (pe_k Gp hr (by rfl) pass0 (pa_cons (pv 0) (pa_cons (pe_lst (pa_cons (pe_tup (pa_cons (pv 2) (pa_cons (pv 1) pa_nil))) (pa_cons (pe_lst (pa_cons (pv 2) (pa_cons (pe_op op_sub pe_int (pv 1)) pa_nil))) (pa_cons (pe_tup (pa_cons (pv 2) (pa_cons pe_bl pa_nil))) (pa_cons (pe_tup (pa_cons (pv 2) pa_nil)) (pa_cons (pe_tup (pa_cons (pv 2) (pa_cons pe_int (pa_cons pe_int pa_nil)))) (pa_cons (pe_tup (pa_cons (pv 2) (pa_cons pe_str pa_nil))) (pa_cons (pe_tup (pa_cons (pv 2) (pa_cons pe_non pa_nil))) (pa_cons (pe_tup (pa_cons pe_str (pa_cons pe_int pa_nil))) (pa_cons (pe_tup (pa_cons pe_str (pa_cons pe_int pa_nil))) (pa_cons (pe_lst (pa_cons pe_str (pa_cons (pe_op op_sub pe_int (pv 1)) pa_nil))) (pa_cons (pe_tup (pa_cons pe_str (pa_cons (pv 1) pa_nil))) (pa_cons (pe_tup (pa_cons pe_str (pa_cons pe_bl pa_nil))) (pa_cons (pe_tup (pa_cons pe_str (pa_cons pe_int pa_nil))) (pa_cons (pe_tup (pa_cons pe_str (pa_cons pe_int pa_nil))) (pa_cons (pe_tup (pa_cons pe_str (pa_cons pe_int pa_nil))) (pa_cons (pe_tup pa_nil) (pa_cons (pe_lst pa_nil) (pa_cons pe_non (pa_cons pe_str (pa_cons pe_int (pa_cons (pe_lst (pa_cons (pe_lst (pa_cons pe_str (pa_cons pe_int pa_nil))) pa_nil)) (pa_cons (pe_tup (pa_cons (pv 2) (pa_cons (pe_lst (pa_cons pe_int pa_nil)) pa_nil))) pa_nil))))))))))))))))))))))) pa_nil))))))), ?_⟩
    refine ⟨_, rfl, _, _, rfl, rfl, ⟨by decide, by decide, by decide⟩, p, c, _, rfl, hh, ⟨by decide, by decide +kernel⟩, fun r H1 r0 _ h1 b1 => ⟨_, _, rfl, rfl, ?_⟩⟩
    obtain ⟨far, hfar⟩ : ∃ far : Int, far = 21 + r := ⟨_, rfl⟩
    refine ⟨_, rfl, (by show 2 ≤ sizeLine; decide), fun e ne => ?_⟩
    have se := same_new (o := .lst [V.str "set", V.str "add"]) (Same.refl H1) ne
    refine ⟨p, c, e, _, rfl, h1.same se, upd_same, hand_ne h1 ne, ⟨by decide, by decide⟩, fun i v H2 hv h2' b2 => ?_⟩
    obtain ⟨wd, rfl, hw⟩ := words_at hv
    have shw : SeqAt.shaped (.str wd) = true := by rcases hw with rfl | rfl <;> decide +kernel
    have b02 : But p H H2 := (b1.trans (But.of se)).trans b2
    have al0 : Odds K fitsL H2 [] := fun _ z => nomatch z
    refine ⟨_, rfl, ?_⟩
    refine ⟨_, rfl, _, rfl, (by show 2 ≤ sizeLine; decide), fun a0 n0 => ?_⟩
    have s0 := same_new (o := .tup [V.str wd, V.int (21 + r)]) (Same.refl _) n0
    have al1 : Odds K fitsL _ [V.ref a0] := al0.push (y := .ref a0) s0 (.inr ⟨a0, [V.str wd, V.int (21 + r)], rfl, .inr upd_same, (fun y hy => by
        simp only [List.mem_cons, List.not_mem_nil, or_false] at hy
        rcases hy with rfl | rfl
        · exact (fine_str _ shw)
        · exact (fine_int _)), lw2 hw (wD_far (by omega)), fun _ _ _ _ z => by cases z⟩)
    refine ⟨_, rfl, _, rfl, _, _, rfl, rfl, (by show 2 ≤ sizeLine; decide), fun a1 n1 => ?_⟩
    have s1 := same_new (o := .lst [V.str wd, V.int (0 - (21 + r))]) (Same.refl _) n1
    have al2 : Odds K fitsL _ [V.ref a0, V.ref a1] := al1.push (y := .ref a1) s1 (.inr ⟨a1, [V.str wd, V.int (0 - (21 + r))], rfl, .inl upd_same, (fun y hy => by
        simp only [List.mem_cons, List.not_mem_nil, or_false] at hy
        rcases hy with rfl | rfl
        · exact (fine_str _ shw)
        · exact (fine_int _)), lw2 hw (wD_far (by omega)), fun _ _ _ _ z => by cases z⟩)
    refine ⟨_, rfl, (by show 2 ≤ sizeLine; decide), fun a2 n2 => ?_⟩
    have s2 := same_new (o := .tup [V.str wd, V.bl true]) (Same.refl _) n2
    have al3 : Odds K fitsL _ [V.ref a0, V.ref a1, V.ref a2] := al2.push (y := .ref a2) s2 (.inr ⟨a2, [V.str wd, V.bl true], rfl, .inr upd_same, (fun y hy => by
        simp only [List.mem_cons, List.not_mem_nil, or_false] at hy
        rcases hy with rfl | rfl
        · exact (fine_str _ shw)
        · exact (fine_bl _)), lw2 hw rfl, fun _ _ _ _ z => by cases z⟩)
    refine ⟨_, rfl, (by show 1 ≤ sizeLine; decide), fun a3 n3 => ?_⟩
    have s3 := same_new (o := .tup [V.str wd]) (Same.refl _) n3
    have al4 : Odds K fitsL _ [V.ref a0, V.ref a1, V.ref a2, V.ref a3] := al3.push (y := .ref a3) s3 (.inr ⟨a3, [V.str wd], rfl, .inr upd_same, (fun y hy => by
        simp only [List.mem_cons, List.not_mem_nil, or_false] at hy
        rcases hy with rfl
        · exact (fine_str _ shw)), lwn hw (by decide), fun _ _ _ _ z => by cases z⟩)
    refine ⟨_, rfl, (by show 3 ≤ sizeLine; decide), fun a4 n4 => ?_⟩
    have s4 := same_new (o := .tup [V.str wd, V.int 1, V.int 1]) (Same.refl _) n4
    have al5 : Odds K fitsL _ [V.ref a0, V.ref a1, V.ref a2, V.ref a3, V.ref a4] := al4.push (y := .ref a4) s4 (.inr ⟨a4, [V.str wd, V.int 1, V.int 1], rfl, .inr upd_same, (fun y hy => by
        simp only [List.mem_cons, List.not_mem_nil, or_false] at hy
        rcases hy with rfl | rfl | rfl
        · exact (fine_str _ shw)
        · exact (fine_int _)
        · exact (fine_int _)), lwn hw (by decide), fun _ _ _ _ z => by cases z⟩)
    refine ⟨_, rfl, (by show 2 ≤ sizeLine; decide), fun a5 n5 => ?_⟩
    have s5 := same_new (o := .tup [V.str wd, V.str "1"]) (Same.refl _) n5
    have al6 : Odds K fitsL _ [V.ref a0, V.ref a1, V.ref a2, V.ref a3, V.ref a4, V.ref a5] := al5.push (y := .ref a5) s5 (.inr ⟨a5, [V.str wd, V.str "1"], rfl, .inr upd_same, (fun y hy => by
        simp only [List.mem_cons, List.not_mem_nil, or_false] at hy
        rcases hy with rfl | rfl
        · exact (fine_str _ shw)
        · exact (fine_str _ (by decide +kernel))), lw2 hw rfl, fun _ _ _ _ z => by cases z⟩)
    refine ⟨_, rfl, (by show 2 ≤ sizeLine; decide), fun a6 n6 => ?_⟩
    have s6 := same_new (o := .tup [V.str wd, V.non]) (Same.refl _) n6
    have al7 : Odds K fitsL _ [V.ref a0, V.ref a1, V.ref a2, V.ref a3, V.ref a4, V.ref a5, V.ref a6] := al6.push (y := .ref a6) s6 (.inr ⟨a6, [V.str wd, V.non], rfl, .inr upd_same, (fun y hy => by
        simp only [List.mem_cons, List.not_mem_nil, or_false] at hy
        rcases hy with rfl | rfl
        · exact (fine_str _ shw)
        · exact (fine_non)), lw2 hw rfl, fun _ _ _ _ z => by cases z⟩)
    refine ⟨(by show 2 ≤ sizeLine; decide), fun a7 n7 => ?_⟩
    have s7 := same_new (o := .tup [V.str "mod", V.int 0]) (Same.refl _) n7
    have al8 : Odds K fitsL _ [V.ref a0, V.ref a1, V.ref a2, V.ref a3, V.ref a4, V.ref a5, V.ref a6, V.ref a7] := al7.push (y := .ref a7) s7 (.inr ⟨a7, [V.str "mod", V.int 0], rfl, .inr upd_same, (fun y hy => by
        simp only [List.mem_cons, List.not_mem_nil, or_false] at hy
        rcases hy with rfl | rfl
        · exact (fine_str _ (by decide +kernel))
        · exact (fine_int _)), (by decide +kernel), fun _ _ _ _ z => by cases z⟩)
    refine ⟨(by show 2 ≤ sizeLine; decide), fun a8 n8 => ?_⟩
    have s8 := same_new (o := .tup [V.str "mod", V.int 7]) (Same.refl _) n8
    have al9 : Odds K fitsL _ [V.ref a0, V.ref a1, V.ref a2, V.ref a3, V.ref a4, V.ref a5, V.ref a6, V.ref a7, V.ref a8] := al8.push (y := .ref a8) s8 (.inr ⟨a8, [V.str "mod", V.int 7], rfl, .inr upd_same, (fun y hy => by
        simp only [List.mem_cons, List.not_mem_nil, or_false] at hy
        rcases hy with rfl | rfl
        · exact (fine_str _ (by decide +kernel))
        · exact (fine_int _)), (by decide +kernel), fun _ _ _ _ z => by cases z⟩)
    refine ⟨_, rfl, _, _, rfl, rfl, (by show 2 ≤ sizeLine; decide), fun a9 n9 => ?_⟩
    have s9 := same_new (o := .lst [V.str "mod", V.int (0 - (21 + r))]) (Same.refl _) n9
    have al10 : Odds K fitsL _ [V.ref a0, V.ref a1, V.ref a2, V.ref a3, V.ref a4, V.ref a5, V.ref a6, V.ref a7, V.ref a8, V.ref a9] := al9.push (y := .ref a9) s9 (.inr ⟨a9, [V.str "mod", V.int (0 - (21 + r))], rfl, .inl upd_same, (fun y hy => by
        simp only [List.mem_cons, List.not_mem_nil, or_false] at hy
        rcases hy with rfl | rfl
        · exact (fine_str _ (by decide +kernel))
        · exact (fine_int _)), (fitsL_mod rfl rfl).trans (wD_far6 (by omega)), fun _ _ _ _ z => by cases z⟩)
    refine ⟨_, rfl, (by show 2 ≤ sizeLine; decide), fun a10 n10 => ?_⟩
    have s10 := same_new (o := .tup [V.str "mod", V.int (21 + r)]) (Same.refl _) n10
    have al11 : Odds K fitsL _ [V.ref a0, V.ref a1, V.ref a2, V.ref a3, V.ref a4, V.ref a5, V.ref a6, V.ref a7, V.ref a8, V.ref a9, V.ref a10] := al10.push (y := .ref a10) s10 (.inr ⟨a10, [V.str "mod", V.int (21 + r)], rfl, .inr upd_same, (fun y hy => by
        simp only [List.mem_cons, List.not_mem_nil, or_false] at hy
        rcases hy with rfl | rfl
        · exact (fine_str _ (by decide +kernel))
        · exact (fine_int _)), (fitsL_mod rfl rfl).trans (wD_far6 (by omega)), fun _ _ _ _ z => by cases z⟩)
    refine ⟨(by show 2 ≤ sizeLine; decide), fun a11 n11 => ?_⟩
    have s11 := same_new (o := .tup [V.str "mod", V.bl true]) (Same.refl _) n11
    have al12 : Odds K fitsL _ [V.ref a0, V.ref a1, V.ref a2, V.ref a3, V.ref a4, V.ref a5, V.ref a6, V.ref a7, V.ref a8, V.ref a9, V.ref a10, V.ref a11] := al11.push (y := .ref a11) s11 (.inr ⟨a11, [V.str "mod", V.bl true], rfl, .inr upd_same, (fun y hy => by
        simp only [List.mem_cons, List.not_mem_nil, or_false] at hy
        rcases hy with rfl | rfl
        · exact (fine_str _ (by decide +kernel))
        · exact (fine_bl _)), (by decide +kernel), fun _ _ _ _ z => by cases z⟩)
    refine ⟨(by show 2 ≤ sizeLine; decide), fun a12 n12 => ?_⟩
    have s12 := same_new (o := .tup [V.str "turn", V.int 0]) (Same.refl _) n12
    have al13 : Odds K fitsL _ [V.ref a0, V.ref a1, V.ref a2, V.ref a3, V.ref a4, V.ref a5, V.ref a6, V.ref a7, V.ref a8, V.ref a9, V.ref a10, V.ref a11, V.ref a12] := al12.push (y := .ref a12) s12 (.inr ⟨a12, [V.str "turn", V.int 0], rfl, .inr upd_same, (fun y hy => by
        simp only [List.mem_cons, List.not_mem_nil, or_false] at hy
        rcases hy with rfl | rfl
        · exact (fine_str _ (by decide +kernel))
        · exact (fine_int _)), (by decide +kernel), fun _ _ _ _ z => by cases z⟩)
    refine ⟨(by show 2 ≤ sizeLine; decide), fun a13 n13 => ?_⟩
    have s13 := same_new (o := .tup [V.str "half", V.int 2]) (Same.refl _) n13
    have al14 : Odds K fitsL _ [V.ref a0, V.ref a1, V.ref a2, V.ref a3, V.ref a4, V.ref a5, V.ref a6, V.ref a7, V.ref a8, V.ref a9, V.ref a10, V.ref a11, V.ref a12, V.ref a13] := al13.push (y := .ref a13) s13 (.inr ⟨a13, [V.str "half", V.int 2], rfl, .inr upd_same, (fun y hy => by
        simp only [List.mem_cons, List.not_mem_nil, or_false] at hy
        rcases hy with rfl | rfl
        · exact (fine_str _ (by decide +kernel))
        · exact (fine_int _)), (by decide +kernel), fun _ _ _ _ z => by cases z⟩)
    refine ⟨(by show 2 ≤ sizeLine; decide), fun a14 n14 => ?_⟩
    have s14 := same_new (o := .tup [V.str "is", V.int 2]) (Same.refl _) n14
    have al15 : Odds K fitsL _ [V.ref a0, V.ref a1, V.ref a2, V.ref a3, V.ref a4, V.ref a5, V.ref a6, V.ref a7, V.ref a8, V.ref a9, V.ref a10, V.ref a11, V.ref a12, V.ref a13, V.ref a14] := al14.push (y := .ref a14) s14 (.inr ⟨a14, [V.str "is", V.int 2], rfl, .inr upd_same, (fun y hy => by
        simp only [List.mem_cons, List.not_mem_nil, or_false] at hy
        rcases hy with rfl | rfl
        · exact (fine_str _ (by decide +kernel))
        · exact (fine_int _)), (by decide +kernel), fun _ _ _ _ z => by cases z⟩)
    refine ⟨(by show 0 ≤ sizeLine; decide), fun a15 n15 => ?_⟩
    have s15 := same_new (o := .tup []) (Same.refl _) n15
    have al16 : Odds K fitsL _ [V.ref a0, V.ref a1, V.ref a2, V.ref a3, V.ref a4, V.ref a5, V.ref a6, V.ref a7, V.ref a8, V.ref a9, V.ref a10, V.ref a11, V.ref a12, V.ref a13, V.ref a14, V.ref a15] := al15.push (y := .ref a15) s15 (.inr ⟨a15, [], rfl, .inr upd_same, (fun _ z => nomatch z), rfl, fun _ _ _ _ z => by cases z⟩)
    refine ⟨(by show 0 ≤ sizeLine; decide), fun a16 n16 => ?_⟩
    have s16 := same_new (o := .lst []) (Same.refl _) n16
    have al17 : Odds K fitsL _ [V.ref a0, V.ref a1, V.ref a2, V.ref a3, V.ref a4, V.ref a5, V.ref a6, V.ref a7, V.ref a8, V.ref a9, V.ref a10, V.ref a11, V.ref a12, V.ref a13, V.ref a14, V.ref a15, V.ref a16] := al16.push (y := .ref a16) s16 (.inr ⟨a16, [], rfl, .inl upd_same, (fun _ z => nomatch z), rfl, fun _ _ _ _ z => by cases z⟩)
    have al18 : Odds K fitsL _ [V.ref a0, V.ref a1, V.ref a2, V.ref a3, V.ref a4, V.ref a5, V.ref a6, V.ref a7, V.ref a8, V.ref a9, V.ref a10, V.ref a11, V.ref a12, V.ref a13, V.ref a14, V.ref a15, V.ref a16, V.non] := al17.push (y := V.non) (Same.refl _) (.inl (.inl rfl))
    have al19 : Odds K fitsL _ [V.ref a0, V.ref a1, V.ref a2, V.ref a3, V.ref a4, V.ref a5, V.ref a6, V.ref a7, V.ref a8, V.ref a9, V.ref a10, V.ref a11, V.ref a12, V.ref a13, V.ref a14, V.ref a15, V.ref a16, V.non, V.str "turn"] := al18.push (y := V.str "turn") (Same.refl _) (.inl (.inr (.inr ⟨_, rfl⟩)))
    have al20 : Odds K fitsL _ [V.ref a0, V.ref a1, V.ref a2, V.ref a3, V.ref a4, V.ref a5, V.ref a6, V.ref a7, V.ref a8, V.ref a9, V.ref a10, V.ref a11, V.ref a12, V.ref a13, V.ref a14, V.ref a15, V.ref a16, V.non, V.str "turn", V.int 7] := al19.push (y := V.int 7) (Same.refl _) (.inl (.inr (.inl ⟨_, rfl⟩)))
    refine ⟨(by show 2 ≤ sizeLine; decide), fun b20 nb20 => ?_⟩
    have sb20 := same_new (o := .lst [V.str "set", V.int 1]) (Same.refl _) nb20
    refine ⟨(by show 1 ≤ sizeLine; decide), fun a20 n20 => ?_⟩
    have s20 := same_new (o := .lst [V.ref b20]) (Same.refl _) n20
    have al21 : Odds K fitsL _ [V.ref a0, V.ref a1, V.ref a2, V.ref a3, V.ref a4, V.ref a5, V.ref a6, V.ref a7, V.ref a8, V.ref a9, V.ref a10, V.ref a11, V.ref a12, V.ref a13, V.ref a14, V.ref a15, V.ref a16, V.non, V.str "turn", V.int 7, V.ref a20] := al20.push (y := .ref a20) (sb20.trans s20) (.inr ⟨a20, [V.ref b20], rfl, .inl upd_same, (fun y hy => by
        simp only [List.mem_cons, List.not_mem_nil, or_false] at hy
        rcases hy with rfl
        · exact (fine_lst (s20 _ _ upd_same) (.cons (.str _) (.cons (.int _) .nil)) (by decide +kernel) (by simp))), fitsL_len rfl (by decide), fun _ _ _ _ z => by cases z⟩)
    refine ⟨_, rfl, (by show 1 ≤ sizeLine; decide), fun b21 nb21 => ?_⟩
    have sb21 := same_new (o := .lst [V.int 1]) (Same.refl _) nb21
    refine ⟨(by show 2 ≤ sizeLine; decide), fun a21 n21 => ?_⟩
    have s21 := same_new (o := .tup [V.str wd, V.ref b21]) (Same.refl _) n21
    have al22 : Odds K fitsL _ [V.ref a0, V.ref a1, V.ref a2, V.ref a3, V.ref a4, V.ref a5, V.ref a6, V.ref a7, V.ref a8, V.ref a9, V.ref a10, V.ref a11, V.ref a12, V.ref a13, V.ref a14, V.ref a15, V.ref a16, V.non, V.str "turn", V.int 7, V.ref a20, V.ref a21] := al21.push (y := .ref a21) (sb21.trans s21) (.inr ⟨a21, [V.str wd, V.ref b21], rfl, .inr upd_same, (fun y hy => by
        simp only [List.mem_cons, List.not_mem_nil, or_false] at hy
        rcases hy with rfl | rfl
        · exact (fine_str _ shw)
        · exact (fine_lst (s21 _ _ upd_same) (.cons (.int _) .nil) (by decide +kernel) (by simp))), lw2 hw rfl, fun _ _ _ _ z => by cases z⟩)
    have sAll := (s0.trans (s1.trans (s2.trans (s3.trans (s4.trans (s5.trans (s6.trans (s7.trans (s8.trans (s9.trans (s10.trans (s11.trans (s12.trans (s13.trans (s14.trans (s15.trans (s16.trans (sb20.trans (s20.trans (sb21.trans s21))))))))))))))))))))
    have hN := h2'.same sAll
    have bN := b02.trans (But.of sAll)
    refine ⟨(by show 22 ≤ sizeLine; decide), fun l nl => ?_⟩
    refine ⟨p, c, l, _, rfl, hN.same (same_new (Same.refl _) nl), upd_same, hand_ne hN nl, ⟨Nat.succ_pos _, by simp only [List.length_cons, List.length_nil]; decide⟩, fun i v H5 hv h5 b5 => ?_⟩
    exact k v H5 h5 (bN.trans ((But.of (same_new (Same.refl _) nl)).trans b5)) (((al22 v (List.mem_of_getElem? hv)).same (same_new (Same.refl _) nl)).but (hN.same (same_new (Same.refl _) nl)) b5)
abbrev s_ot : Stmt := top 71
abbrev N_ot : List Str := ["_law_hand_here", "_law_far", "_law_word", "_law_m"]
theorem sc_ot : FnScope N_ot ["_law_hand_here"] (defScope s_ot) := ⟨rfl, rfl, rfl, by decide +kernel, rfl, by decide +kernel, by decide +kernel⟩
theorem kp_ot (F : At K mg "_law_odd_test" s_ot) (G : Keeps CX0 P w K mg base "_law_draw" 2 ["_law_hand_here", "_law_many"] spDraw) (Gp : Keeps CX0 P w K mg base "_law_pick" 3 ["_law_hand_here", "_law_things"] spPick) : Keeps CX0 P w K mg base "_law_odd_test" 4 ["_law_hand_here"] (spOdd K fitsT) := by
  refine keeps_of F sc_ot (fun _ _ _ _ _ _ us hl => match us, hl with | [_], _ => rfl) (fun vs H Q E h => ?_) (fun f cdv A outer s H vs Q E hr h => ?_)
  · obtain ⟨p, c, rfl, _⟩ := h
    rfl
  · obtain ⟨p, c, rfl, hh, k⟩ := h
    have h2 : Room 2 (A.deeper (envOfC "_law_odd_test" (defScope s_ot) s.heap.objs.size f cdv)) := hr.mono (by decide)
    refine ⟨_, (pss_cons (ps_set (i := 1) sc_ot.nd rfl (by walk_at "lv") (pe_op op_add pe_int (pe_k G h2 (by rfl) pass0 (pa_cons (pv 0) (pa_cons (pe_op op_pow pe_int pe_int) pa_nil)))))
      (pss_cons (ps_set (i := 2) sc_ot.nd rfl (by walk_at "lv") (pe_k Gp hr (by rfl) pass0 (pa_cons (pv 0) (pa_cons (pe_lst (pa_cons pe_str (pa_cons pe_str pa_nil))) pa_nil))))
      (pss_cons (ps_set (i := 3) sc_ot.nd rfl (by walk_at "lv") (pe_op op_add pe_int (pe_k G h2 (by rfl) pass0 (pa_cons (pv 0) (pa_cons pe_int pa_nil)))))
      (pss_one (ps_ret (pe_k Gp hr (by rfl) pass0 (pa_cons (pv 0) (pa_cons (pe_lst (pa_cons (pe_tup (pa_cons (pv 2) (pa_cons (pv 1) pa_nil))) (pa_cons (pe_lst (pa_cons (pv 2) (pa_cons (pe_op op_sub pe_int (pv 1)) pa_nil))) (pa_cons (pe_tup (pa_cons (pv 2) (pa_cons pe_bl pa_nil))) (pa_cons (pe_tup (pa_cons (pv 2) pa_nil)) (pa_cons (pe_tup (pa_cons (pv 2) (pa_cons pe_int (pa_cons pe_int pa_nil)))) (pa_cons (pe_tup (pa_cons (pv 2) (pa_cons pe_str pa_nil))) (pa_cons (pe_tup (pa_cons (pv 2) (pa_cons pe_non pa_nil))) (pa_cons (pe_tup (pa_cons pe_str (pa_cons pe_int (pa_cons pe_int pa_nil)))) (pa_cons (pe_tup (pa_cons pe_str (pa_cons pe_int (pa_cons pe_int pa_nil)))) (pa_cons (pe_lst (pa_cons pe_str (pa_cons (pv 3) (pa_cons (pv 3) pa_nil)))) (pa_cons (pe_tup (pa_cons pe_str (pa_cons (pv 3) (pa_cons (pe_un un_neg pe_int) pa_nil)))) (pa_cons (pe_tup (pa_cons pe_str (pa_cons (pv 3) pa_nil))) (pa_cons (pe_tup (pa_cons pe_str (pa_cons pe_bl (pa_cons pe_int pa_nil)))) (pa_cons (pe_tup (pa_cons pe_str (pa_cons (pv 3) (pa_cons pe_bl pa_nil)))) (pa_cons (pe_tup (pa_cons pe_str (pa_cons (pv 3) (pa_cons pe_int (pa_cons pe_int pa_nil))))) (pa_cons (pe_tup (pa_cons pe_str (pa_cons pe_int pa_nil))) (pa_cons (pe_tup (pa_cons pe_str pa_nil)) (pa_cons (pe_tup pa_nil) (pa_cons (pe_lst pa_nil) (pa_cons pe_non (pa_cons pe_str (pa_cons pe_int pa_nil))))))))))))))))))))))) pa_nil)))))))), ?_⟩
    refine ⟨_, rfl, _, _, rfl, rfl, ⟨by decide, by decide, by decide⟩, p, c, _, rfl, hh, ⟨by decide, by decide +kernel⟩, fun r H1 r0 _ h1 b1 => ⟨_, _, rfl, rfl, ?_⟩⟩
    obtain ⟨far, hfar⟩ : ∃ far : Int, far = 21 + r := ⟨_, rfl⟩
    refine ⟨_, rfl, (by show 2 ≤ sizeLine; decide), fun e ne => ?_⟩
    have se := same_new (o := .lst [V.str "below", V.str "is"]) (Same.refl H1) ne
    refine ⟨p, c, e, _, rfl, h1.same se, upd_same, hand_ne h1 ne, ⟨by decide, by decide⟩, fun i v H2 hv h2' b2 => ?_⟩
    obtain ⟨wd, rfl, hw⟩ := words_at hv
    have shw : SeqAt.shaped (.str wd) = true := by rcases hw with rfl | rfl <;> decide +kernel
    have b02 : But p H H2 := (b1.trans (But.of se)).trans b2
    refine ⟨_, rfl, p, c, 6, rfl, h2', ⟨by decide, by decide⟩, fun rm H3 m0 m1 h3 b3 => ⟨_, _, rfl, rfl, ?_⟩⟩
    obtain ⟨m, hm⟩ : ∃ m : Int, m = 1 + rm := ⟨_, rfl⟩
    have b03 : But p H H3 := b02.trans b3
    have al0 : Odds K fitsT H3 [] := fun _ z => nomatch z
    refine ⟨_, rfl, ?_⟩
    refine ⟨_, rfl, _, rfl, (by show 2 ≤ sizeLine; decide), fun a0 n0 => ?_⟩
    have s0 := same_new (o := .tup [V.str wd, V.int (21 + r)]) (Same.refl _) n0
    have al1 : Odds K fitsT _ [V.ref a0] := al0.push (y := .ref a0) s0 (.inr ⟨a0, [V.str wd, V.int (21 + r)], rfl, .inr upd_same, (fun y hy => by
        simp only [List.mem_cons, List.not_mem_nil, or_false] at hy
        rcases hy with rfl | rfl
        · exact (fine_str _ shw)
        · exact (fine_int _)), lt2 hw (wD_far (by omega)), fun _ _ _ _ z => by cases z⟩)
    refine ⟨_, rfl, _, rfl, _, _, rfl, rfl, (by show 2 ≤ sizeLine; decide), fun a1 n1 => ?_⟩
    have s1 := same_new (o := .lst [V.str wd, V.int (0 - (21 + r))]) (Same.refl _) n1
    have al2 : Odds K fitsT _ [V.ref a0, V.ref a1] := al1.push (y := .ref a1) s1 (.inr ⟨a1, [V.str wd, V.int (0 - (21 + r))], rfl, .inl upd_same, (fun y hy => by
        simp only [List.mem_cons, List.not_mem_nil, or_false] at hy
        rcases hy with rfl | rfl
        · exact (fine_str _ shw)
        · exact (fine_int _)), lt2 hw (wD_far (by omega)), fun _ _ _ _ z => by cases z⟩)
    refine ⟨_, rfl, (by show 2 ≤ sizeLine; decide), fun a2 n2 => ?_⟩
    have s2 := same_new (o := .tup [V.str wd, V.bl true]) (Same.refl _) n2
    have al3 : Odds K fitsT _ [V.ref a0, V.ref a1, V.ref a2] := al2.push (y := .ref a2) s2 (.inr ⟨a2, [V.str wd, V.bl true], rfl, .inr upd_same, (fun y hy => by
        simp only [List.mem_cons, List.not_mem_nil, or_false] at hy
        rcases hy with rfl | rfl
        · exact (fine_str _ shw)
        · exact (fine_bl _)), lt2 hw rfl, fun _ _ _ _ z => by cases z⟩)
    refine ⟨_, rfl, (by show 1 ≤ sizeLine; decide), fun a3 n3 => ?_⟩
    have s3 := same_new (o := .tup [V.str wd]) (Same.refl _) n3
    have al4 : Odds K fitsT _ [V.ref a0, V.ref a1, V.ref a2, V.ref a3] := al3.push (y := .ref a3) s3 (.inr ⟨a3, [V.str wd], rfl, .inr upd_same, (fun y hy => by
        simp only [List.mem_cons, List.not_mem_nil, or_false] at hy
        rcases hy with rfl
        · exact (fine_str _ shw)), ltn hw (by decide), fun _ _ _ _ z => by cases z⟩)
    refine ⟨_, rfl, (by show 3 ≤ sizeLine; decide), fun a4 n4 => ?_⟩
    have s4 := same_new (o := .tup [V.str wd, V.int 1, V.int 1]) (Same.refl _) n4
    have al5 : Odds K fitsT _ [V.ref a0, V.ref a1, V.ref a2, V.ref a3, V.ref a4] := al4.push (y := .ref a4) s4 (.inr ⟨a4, [V.str wd, V.int 1, V.int 1], rfl, .inr upd_same, (fun y hy => by
        simp only [List.mem_cons, List.not_mem_nil, or_false] at hy
        rcases hy with rfl | rfl | rfl
        · exact (fine_str _ shw)
        · exact (fine_int _)
        · exact (fine_int _)), ltn hw (by decide), fun _ _ _ _ z => by cases z⟩)
    refine ⟨_, rfl, (by show 2 ≤ sizeLine; decide), fun a5 n5 => ?_⟩
    have s5 := same_new (o := .tup [V.str wd, V.str "1"]) (Same.refl _) n5
    have al6 : Odds K fitsT _ [V.ref a0, V.ref a1, V.ref a2, V.ref a3, V.ref a4, V.ref a5] := al5.push (y := .ref a5) s5 (.inr ⟨a5, [V.str wd, V.str "1"], rfl, .inr upd_same, (fun y hy => by
        simp only [List.mem_cons, List.not_mem_nil, or_false] at hy
        rcases hy with rfl | rfl
        · exact (fine_str _ shw)
        · exact (fine_str _ (by decide +kernel))), lt2 hw rfl, fun _ _ _ _ z => by cases z⟩)
    refine ⟨_, rfl, (by show 2 ≤ sizeLine; decide), fun a6 n6 => ?_⟩
    have s6 := same_new (o := .tup [V.str wd, V.non]) (Same.refl _) n6
    have al7 : Odds K fitsT _ [V.ref a0, V.ref a1, V.ref a2, V.ref a3, V.ref a4, V.ref a5, V.ref a6] := al6.push (y := .ref a6) s6 (.inr ⟨a6, [V.str wd, V.non], rfl, .inr upd_same, (fun y hy => by
        simp only [List.mem_cons, List.not_mem_nil, or_false] at hy
        rcases hy with rfl | rfl
        · exact (fine_str _ shw)
        · exact (fine_non)), lt2 hw rfl, fun _ _ _ _ z => by cases z⟩)
    refine ⟨(by show 3 ≤ sizeLine; decide), fun a7 n7 => ?_⟩
    have s7 := same_new (o := .tup [V.str "rest", V.int 0, V.int 0]) (Same.refl _) n7
    have al8 : Odds K fitsT _ [V.ref a0, V.ref a1, V.ref a2, V.ref a3, V.ref a4, V.ref a5, V.ref a6, V.ref a7] := al7.push (y := .ref a7) s7 (.inr ⟨a7, [V.str "rest", V.int 0, V.int 0], rfl, .inr upd_same, (fun y hy => by
        simp only [List.mem_cons, List.not_mem_nil, or_false] at hy
        rcases hy with rfl | rfl | rfl
        · exact (fine_str _ (by decide +kernel))
        · exact (fine_int _)
        · exact (fine_int _)), (by decide +kernel), fun _ _ _ _ z => by cases z⟩)
    refine ⟨(by show 3 ≤ sizeLine; decide), fun a8 n8 => ?_⟩
    have s8 := same_new (o := .tup [V.str "rest", V.int 7, V.int 0]) (Same.refl _) n8
    have al9 : Odds K fitsT _ [V.ref a0, V.ref a1, V.ref a2, V.ref a3, V.ref a4, V.ref a5, V.ref a6, V.ref a7, V.ref a8] := al8.push (y := .ref a8) s8 (.inr ⟨a8, [V.str "rest", V.int 7, V.int 0], rfl, .inr upd_same, (fun y hy => by
        simp only [List.mem_cons, List.not_mem_nil, or_false] at hy
        rcases hy with rfl | rfl | rfl
        · exact (fine_str _ (by decide +kernel))
        · exact (fine_int _)
        · exact (fine_int _)), (by decide +kernel), fun _ _ _ _ z => by cases z⟩)
    refine ⟨_, rfl, _, rfl, (by show 3 ≤ sizeLine; decide), fun a9 n9 => ?_⟩
    have s9 := same_new (o := .lst [V.str "rest", V.int (1 + rm), V.int (1 + rm)]) (Same.refl _) n9
    have al10 : Odds K fitsT _ [V.ref a0, V.ref a1, V.ref a2, V.ref a3, V.ref a4, V.ref a5, V.ref a6, V.ref a7, V.ref a8, V.ref a9] := al9.push (y := .ref a9) s9 (.inr ⟨a9, [V.str "rest", V.int (1 + rm), V.int (1 + rm)], rfl, .inl upd_same, (fun y hy => by
        simp only [List.mem_cons, List.not_mem_nil, or_false] at hy
        rcases hy with rfl | rfl | rfl
        · exact (fine_str _ (by decide +kernel))
        · exact (fine_int _)
        · exact (fine_int _)), (fitsT_rest (x := .str "rest") (y := V.int (1 + rm)) (z := V.int (1 + rm)) rfl).trans (and_no (by show (decide (0 ≤ 1 + rm) && decide (1 + rm ≤ 1 + rm - 1)) = false; rw [decide_eq_false (by omega : ¬ 1 + rm ≤ 1 + rm - 1), Bool.and_false])), fun _ _ _ _ z => by cases z⟩)
    refine ⟨_, rfl, _, rfl, (by show 3 ≤ sizeLine; decide), fun a10 n10 => ?_⟩
    have s10 := same_new (o := .tup [V.str "rest", V.int (1 + rm), V.int (-1)]) (Same.refl _) n10
    have al11 : Odds K fitsT _ [V.ref a0, V.ref a1, V.ref a2, V.ref a3, V.ref a4, V.ref a5, V.ref a6, V.ref a7, V.ref a8, V.ref a9, V.ref a10] := al10.push (y := .ref a10) s10 (.inr ⟨a10, [V.str "rest", V.int (1 + rm), V.int (-1)], rfl, .inr upd_same, (fun y hy => by
        simp only [List.mem_cons, List.not_mem_nil, or_false] at hy
        rcases hy with rfl | rfl | rfl
        · exact (fine_str _ (by decide +kernel))
        · exact (fine_int _)
        · exact (fine_int _)), (fitsT_rest (x := .str "rest") (y := V.int (1 + rm)) (z := V.int (-1)) rfl).trans (and_no (by show (decide ((0 : Int) ≤ -1) && decide ((-1 : Int) ≤ 1 + rm - 1)) = false; rw [decide_eq_false (by decide : ¬ (0 : Int) ≤ -1), Bool.false_and])), fun _ _ _ _ z => by cases z⟩)
    refine ⟨_, rfl, (by show 2 ≤ sizeLine; decide), fun a11 n11 => ?_⟩
    have s11 := same_new (o := .tup [V.str "rest", V.int (1 + rm)]) (Same.refl _) n11
    have al12 : Odds K fitsT _ [V.ref a0, V.ref a1, V.ref a2, V.ref a3, V.ref a4, V.ref a5, V.ref a6, V.ref a7, V.ref a8, V.ref a9, V.ref a10, V.ref a11] := al11.push (y := .ref a11) s11 (.inr ⟨a11, [V.str "rest", V.int (1 + rm)], rfl, .inr upd_same, (fun y hy => by
        simp only [List.mem_cons, List.not_mem_nil, or_false] at hy
        rcases hy with rfl | rfl
        · exact (fine_str _ (by decide +kernel))
        · exact (fine_int _)), fitsT_restN rfl (by simp), fun _ _ _ _ z => by cases z⟩)
    refine ⟨(by show 3 ≤ sizeLine; decide), fun a12 n12 => ?_⟩
    have s12 := same_new (o := .tup [V.str "rest", V.bl true, V.int 0]) (Same.refl _) n12
    have al13 : Odds K fitsT _ [V.ref a0, V.ref a1, V.ref a2, V.ref a3, V.ref a4, V.ref a5, V.ref a6, V.ref a7, V.ref a8, V.ref a9, V.ref a10, V.ref a11, V.ref a12] := al12.push (y := .ref a12) s12 (.inr ⟨a12, [V.str "rest", V.bl true, V.int 0], rfl, .inr upd_same, (fun y hy => by
        simp only [List.mem_cons, List.not_mem_nil, or_false] at hy
        rcases hy with rfl | rfl | rfl
        · exact (fine_str _ (by decide +kernel))
        · exact (fine_bl _)
        · exact (fine_int _)), (by decide +kernel), fun _ _ _ _ z => by cases z⟩)
    refine ⟨_, rfl, (by show 3 ≤ sizeLine; decide), fun a13 n13 => ?_⟩
    have s13 := same_new (o := .tup [V.str "rest", V.int (1 + rm), V.bl false]) (Same.refl _) n13
    have al14 : Odds K fitsT _ [V.ref a0, V.ref a1, V.ref a2, V.ref a3, V.ref a4, V.ref a5, V.ref a6, V.ref a7, V.ref a8, V.ref a9, V.ref a10, V.ref a11, V.ref a12, V.ref a13] := al13.push (y := .ref a13) s13 (.inr ⟨a13, [V.str "rest", V.int (1 + rm), V.bl false], rfl, .inr upd_same, (fun y hy => by
        simp only [List.mem_cons, List.not_mem_nil, or_false] at hy
        rcases hy with rfl | rfl | rfl
        · exact (fine_str _ (by decide +kernel))
        · exact (fine_int _)
        · exact (fine_bl _)), (fitsT_rest (x := .str "rest") (y := V.int (1 + rm)) (z := V.bl false) rfl).trans (and_no (by rfl)), fun _ _ _ _ z => by cases z⟩)
    refine ⟨_, rfl, (by show 4 ≤ sizeLine; decide), fun a14 n14 => ?_⟩
    have s14 := same_new (o := .tup [V.str "rest", V.int (1 + rm), V.int 0, V.int 0]) (Same.refl _) n14
    have al15 : Odds K fitsT _ [V.ref a0, V.ref a1, V.ref a2, V.ref a3, V.ref a4, V.ref a5, V.ref a6, V.ref a7, V.ref a8, V.ref a9, V.ref a10, V.ref a11, V.ref a12, V.ref a13, V.ref a14] := al14.push (y := .ref a14) s14 (.inr ⟨a14, [V.str "rest", V.int (1 + rm), V.int 0, V.int 0], rfl, .inr upd_same, (fun y hy => by
        simp only [List.mem_cons, List.not_mem_nil, or_false] at hy
        rcases hy with rfl | rfl | rfl | rfl
        · exact (fine_str _ (by decide +kernel))
        · exact (fine_int _)
        · exact (fine_int _)
        · exact (fine_int _)), fitsT_restN rfl (by simp), fun _ _ _ _ z => by cases z⟩)
    refine ⟨(by show 2 ≤ sizeLine; decide), fun a15 n15 => ?_⟩
    have s15 := same_new (o := .tup [V.str "set", V.int 0]) (Same.refl _) n15
    have al16 : Odds K fitsT _ [V.ref a0, V.ref a1, V.ref a2, V.ref a3, V.ref a4, V.ref a5, V.ref a6, V.ref a7, V.ref a8, V.ref a9, V.ref a10, V.ref a11, V.ref a12, V.ref a13, V.ref a14, V.ref a15] := al15.push (y := .ref a15) s15 (.inr ⟨a15, [V.str "set", V.int 0], rfl, .inr upd_same, (fun y hy => by
        simp only [List.mem_cons, List.not_mem_nil, or_false] at hy
        rcases hy with rfl | rfl
        · exact (fine_str _ (by decide +kernel))
        · exact (fine_int _)), (by decide +kernel), fun _ _ _ _ z => by cases z⟩)
    refine ⟨(by show 1 ≤ sizeLine; decide), fun a16 n16 => ?_⟩
    have s16 := same_new (o := .tup [V.str "turn"]) (Same.refl _) n16
    have al17 : Odds K fitsT _ [V.ref a0, V.ref a1, V.ref a2, V.ref a3, V.ref a4, V.ref a5, V.ref a6, V.ref a7, V.ref a8, V.ref a9, V.ref a10, V.ref a11, V.ref a12, V.ref a13, V.ref a14, V.ref a15, V.ref a16] := al16.push (y := .ref a16) s16 (.inr ⟨a16, [V.str "turn"], rfl, .inr upd_same, (fun y hy => by
        simp only [List.mem_cons, List.not_mem_nil, or_false] at hy
        rcases hy with rfl
        · exact (fine_str _ (by decide +kernel))), (by decide +kernel), fun _ _ _ _ z => by cases z⟩)
    refine ⟨(by show 0 ≤ sizeLine; decide), fun a17 n17 => ?_⟩
    have s17 := same_new (o := .tup []) (Same.refl _) n17
    have al18 : Odds K fitsT _ [V.ref a0, V.ref a1, V.ref a2, V.ref a3, V.ref a4, V.ref a5, V.ref a6, V.ref a7, V.ref a8, V.ref a9, V.ref a10, V.ref a11, V.ref a12, V.ref a13, V.ref a14, V.ref a15, V.ref a16, V.ref a17] := al17.push (y := .ref a17) s17 (.inr ⟨a17, [], rfl, .inr upd_same, (fun _ z => nomatch z), rfl, fun _ _ _ _ z => by cases z⟩)
    refine ⟨(by show 0 ≤ sizeLine; decide), fun a18 n18 => ?_⟩
    have s18 := same_new (o := .lst []) (Same.refl _) n18
    have al19 : Odds K fitsT _ [V.ref a0, V.ref a1, V.ref a2, V.ref a3, V.ref a4, V.ref a5, V.ref a6, V.ref a7, V.ref a8, V.ref a9, V.ref a10, V.ref a11, V.ref a12, V.ref a13, V.ref a14, V.ref a15, V.ref a16, V.ref a17, V.ref a18] := al18.push (y := .ref a18) s18 (.inr ⟨a18, [], rfl, .inl upd_same, (fun _ z => nomatch z), rfl, fun _ _ _ _ z => by cases z⟩)
    have al20 : Odds K fitsT _ [V.ref a0, V.ref a1, V.ref a2, V.ref a3, V.ref a4, V.ref a5, V.ref a6, V.ref a7, V.ref a8, V.ref a9, V.ref a10, V.ref a11, V.ref a12, V.ref a13, V.ref a14, V.ref a15, V.ref a16, V.ref a17, V.ref a18, V.non] := al19.push (y := V.non) (Same.refl _) (.inl (.inl rfl))
    have al21 : Odds K fitsT _ [V.ref a0, V.ref a1, V.ref a2, V.ref a3, V.ref a4, V.ref a5, V.ref a6, V.ref a7, V.ref a8, V.ref a9, V.ref a10, V.ref a11, V.ref a12, V.ref a13, V.ref a14, V.ref a15, V.ref a16, V.ref a17, V.ref a18, V.non, V.str "is"] := al20.push (y := V.str "is") (Same.refl _) (.inl (.inr (.inr ⟨_, rfl⟩)))
    have al22 : Odds K fitsT _ [V.ref a0, V.ref a1, V.ref a2, V.ref a3, V.ref a4, V.ref a5, V.ref a6, V.ref a7, V.ref a8, V.ref a9, V.ref a10, V.ref a11, V.ref a12, V.ref a13, V.ref a14, V.ref a15, V.ref a16, V.ref a17, V.ref a18, V.non, V.str "is", V.int 0] := al21.push (y := V.int 0) (Same.refl _) (.inl (.inr (.inl ⟨_, rfl⟩)))
    have sAll := (s0.trans (s1.trans (s2.trans (s3.trans (s4.trans (s5.trans (s6.trans (s7.trans (s8.trans (s9.trans (s10.trans (s11.trans (s12.trans (s13.trans (s14.trans (s15.trans (s16.trans (s17.trans s18))))))))))))))))))
    have hN := h3.same sAll
    have bN := b03.trans (But.of sAll)
    refine ⟨(by show 22 ≤ sizeLine; decide), fun l nl => ?_⟩
    refine ⟨p, c, l, _, rfl, hN.same (same_new (Same.refl _) nl), upd_same, hand_ne hN nl, ⟨Nat.succ_pos _, by simp only [List.length_cons, List.length_nil]; decide⟩, fun i v H5 hv h5 b5 => ?_⟩
    exact k v H5 h5 (bN.trans ((But.of (same_new (Same.refl _) nl)).trans b5)) (((al22 v (List.mem_of_getElem? hv)).same (same_new (Same.refl _) nl)).but (hN.same (same_new (Same.refl _) nl)) b5)
end
end My
set_option Elab.async false
set_option linter.all false
set_option maxRecDepth 100000
set_option maxHeartbeats 8000000
namespace My
open PySem PySem.Spec PyProof.Rows L2
local macro_rules | `(tactic| walk_at "lv") => `(tactic| first | exact Or.inl rfl | exact Or.inr rfl)
/-- a thing that says a letter, a test -/
def Good (K : PySem.W.Frag) (f : List V → Bool) (H : Hp) (x : V) : Prop := ∃ a xs ds, x = .ref a ∧ H a = some (.tup xs) ∧ (∀ y ∈ xs, Fine K H y) ∧ f xs = true ∧ (∀ H', DpAll K H' xs ds) ∧ SeqAt.shaped (.list [.str "good", .tuple ds]) = true ∧ PyData.eqv (.list [.str "good", .tuple ds]) (.list [.str "good", .tuple ds]) = true
theorem Good.same {K : PySem.W.Frag} {f : List V → Bool} {H H' : Hp} {x : V} (s : Same H H') (h : Good K f H x) : Good K f H' x := by
  obtain ⟨a, xs, ds, rfl, h1, h2, h3⟩ := h
  exact ⟨a, xs, ds, rfl, s _ _ h1, fun y hy => (h2 y hy).same s, h3⟩
def Goods (K : PySem.W.Frag) (f : List V → Bool) (H : Hp) (l : List V) : Prop := ∀ z ∈ l, Good K f H z
theorem Goods.push {K : PySem.W.Frag} {f : List V → Bool} {H H' : Hp} {l : List V} {y : V} (h : Goods K f H l) (s : Same H H') (o : Good K f H' y) : Goods K f H' (l ++ [y]) := fun z hz => by
  rcases List.mem_append.mp hz with q | q
  · exact (h z q).same s
  · rw [List.mem_singleton.mp q]
    exact o
theorem gt1 {m : Int} (h : 1 ≤ m ∧ m ≤ 6) : fitsT [.str "rest", .int m, .int 0] = true ∧ SeqAt.shaped (.list [.str "good", .tuple [.str "rest", .int m, .int 0]]) = true ∧ PyData.eqv (.list [.str "good", .tuple [.str "rest", .int m, .int 0]]) (.list [.str "good", .tuple [.str "rest", .int m, .int 0]]) = true := by
  have : m = 1 ∨ m = 2 ∨ m = 3 ∨ m = 4 ∨ m = 5 ∨ m = 6 := by omega
  rcases this with rfl | rfl | rfl | rfl | rfl | rfl <;> exact ⟨by decide +kernel, by decide +kernel, by decide +kernel⟩
theorem gt2 {m : Int} (h : 1 ≤ m ∧ m ≤ 6) : fitsT [.str "rest", .int m, .int (m - 1)] = true ∧ SeqAt.shaped (.list [.str "good", .tuple [.str "rest", .int m, .int (m - 1)]]) = true ∧ PyData.eqv (.list [.str "good", .tuple [.str "rest", .int m, .int (m - 1)]]) (.list [.str "good", .tuple [.str "rest", .int m, .int (m - 1)]]) = true := by
  have : m = 1 ∨ m = 2 ∨ m = 3 ∨ m = 4 ∨ m = 5 ∨ m = 6 := by omega
  rcases this with rfl | rfl | rfl | rfl | rfl | rfl <;> exact ⟨by decide +kernel, by decide +kernel, by decide +kernel⟩
/-- what is told of a good thing equals what is due -/
theorem told_good {K : PySem.W.Frag} {f : List V → Bool} {H H' : Hp} {x a : Addr} {xs : List V} {l : Addr} {Q : VK} (s : Same H H') (h : Good K f H (.ref x)) (hs : H x = some (.tup xs)) (hl : SqA H' l xs) (k : ∀ (q : Addr) H2, Same H' H2 → (∀ r, H2 r = none → rNeD K (.ref q) (.ref r) (upd H2 r (.lst [.str "good", .ref x])) (fun v H3 => v = .bl false ∧ H3 = upd H2 r (.lst [.str "good", .ref x]))) → Q (.ref q) H2) :
    spTold K f [.ref l] H' Q E0 := by
  obtain ⟨a, xs', ds, e1, h1, h2, h3, h4, h5, h6⟩ := h
  cases e1
  rw [hs] at h1
  cases h1
  refine ⟨_, rfl, .inr ⟨l, xs, rfl, hl, fun y hy => (h2 y hy).same s, fun z => (by rw [h3] at z; cases z), fun _ q t H2 s2 et eq => k q H2 s2 fun r hr => ?_⟩⟩
  have sr := same_new (o := .lst [.str "good", .ref x]) (Same.refl H2) hr
  refine ⟨.list [.str "good", .tuple ds], .list [.str "good", .tuple ds], .lst (SqL.of (sr _ _ eq)) (.cons (.str _) (.cons (.tup (SqT.of (sr _ _ et)) (h4 _)) .nil)), .lst (SqL.of upd_same) (.cons (.str _) (.cons (.tup (SqT.of (sr _ _ (s2 _ _ (s _ _ hs)))) (h4 _)) .nil)), h5, h5, ?_, rfl⟩
  rw [h6]
  rfl
section
variable {P : Program} {w : World} {K : PySem.W.Frag} {mg : Str → Option Value} {base : Heap}
/-! ### _law_refusals_hold -/
def spRef : Sp := fun vs H Q _ => ∃ p c, vs = [.ref p] ∧ HandC H p c ∧ ∀ H', Q (.bl true) H'
abbrev s_ref : Stmt := top 72
abbrev N_ref : List Str := ["_law_hand_here", "_law_edges", "_law_letter_here", "_law_m", "_law_test_here", "_law_turn"]
theorem sc_ref : FnScope N_ref ["_law_hand_here"] (defScope s_ref) := ⟨rfl, rfl, rfl, by decide +kernel, rfl, by decide +kernel, by decide +kernel⟩
theorem rNe_use {K : PySem.W.Frag} {x y : V} {H : Hp} {Q : VK} (h : rNeD K x y H (fun v H3 => v = .bl false ∧ H3 = H)) (k : Q (.bl false) H) : rNeD K x y H Q := by
  obtain ⟨d, e, h1, h2, h3, h4, h5, _⟩ := h
  refine ⟨d, e, h1, h2, h3, h4, ?_⟩
  rw [h5]
  exact k
theorem ne_bad {K : PySem.W.Frag} {q r : Addr} {H : Hp} {Q : VK} (hq : H q = some (.lst [.str "bad", .bl true, .bl false])) (hr : H r = some (.lst [.str "bad", .bl true, .bl false])) (k : Q (.bl false) H) : rNeD K (.ref q) (.ref r) H Q :=
  ⟨.list [.str "bad", .bool true, .bool false], .list [.str "bad", .bool true, .bool false], .lst (SqL.of hq) (.cons (.str _) (.cons (.bl _) (.cons (.bl _) .nil))), .lst (SqL.of hr) (.cons (.str _) (.cons (.bl _) (.cons (.bl _) .nil))), by decide +kernel, by decide +kernel, by
    rw [show (!PyData.eqv (.list [.str "bad", .bool true, .bool false]) (.list [.str "bad", .bool true, .bool false])) = false by decide +kernel]
    exact k⟩
theorem told_odd {K : PySem.W.Frag} {f : List V → Bool} {H : Hp} {x : V} {Q : VK} (o : Odd K f H x) (k : ∀ q H', Same H H' → H' q = some (.lst [.str "bad", .bl true, .bl false]) → Q (.ref q) H') : spTold K f [x] H Q E0 := by
  rcases o with o | ⟨a, xs, rfl, h1, h2, h3, _⟩
  · exact ⟨x, rfl, .inl ⟨o, k⟩⟩
  · exact ⟨_, rfl, .inr ⟨a, xs, rfl, h1, h2, fun _ => k, fun z => by rw [h3] at z; cases z⟩⟩
theorem kp_ref (F : At K mg "_law_refusals_hold" s_ref) (N : Nb mg) (G : Keeps CX0 P w K mg base "_law_draw" 2 ["_law_hand_here", "_law_many"] spDraw) (Gl_ : Keeps CX0 P w K mg base "_law_letter_told" 5 ["_law_letter_here"] (spTold K fitsL)) (Gt : Keeps CX0 P w K mg base "_law_test_told" 5 ["_law_test_here"] (spTold K fitsT))
    (Gol : Keeps CX0 P w K mg base "_law_odd_letter" 4 ["_law_hand_here"] (spOdd K fitsL)) (Got : Keeps CX0 P w K mg base "_law_odd_test" 4 ["_law_hand_here"] (spOdd K fitsT)) : Keeps CX0 P w K mg base "_law_refusals_hold" 6 ["_law_hand_here"] spRef := by
  refine keeps_of F sc_ref (fun _ _ _ _ _ _ us hl => match us, hl with | [_], _ => rfl) (fun vs H Q E h => ?_) (fun f cdv A outer s H vs Q E hr h => ?_)
  · obtain ⟨p, c, rfl, _⟩ := h
    rfl
  · obtain ⟨p, c, rfl, hh, k⟩ := h
    have h4 : Room 4 (A.deeper (envOfC "_law_refusals_hold" (defScope s_ref) s.heap.objs.size f cdv)) := hr.mono (by decide)
    have h2 : Room 2 (A.deeper (envOfC "_law_refusals_hold" (defScope s_ref) s.heap.objs.size f cdv)) := hr.mono (by decide)
    refine ⟨_, (pss_cons (ps_set (i := 1) sc_ref.nd rfl (by walk_at "lv") (pe_lst (pa_cons (pe_tup (pa_cons pe_str (pa_cons pe_int pa_nil))) (pa_cons (pe_tup (pa_cons pe_str (pa_cons (pe_un un_neg pe_int) pa_nil))) (pa_cons (pe_tup (pa_cons pe_str (pa_cons pe_int pa_nil))) (pa_cons (pe_tup (pa_cons pe_str (pa_cons (pe_un un_neg pe_int) pa_nil))) (pa_cons (pe_tup (pa_cons pe_str (pa_cons pe_int pa_nil))) (pa_cons (pe_tup (pa_cons pe_str pa_nil)) (pa_cons (pe_tup (pa_cons pe_str (pa_cons pe_int pa_nil))) (pa_cons (pe_tup (pa_cons pe_str (pa_cons pe_int pa_nil))) pa_nil))))))))))
      (pss_cons (ps_for PassesOwn.never rfl (pi_list (pv 1)) (pg_name (i := 2) sc_ref.nd rfl (by walk_at "lv")) (pss_one (ps_if (PW.pt (pw_or (pt_cmpR (op_neD hr.units) (pe_k Gl_ hr (by rfl) pass0 (pa_cons (pv 2) pa_nil)) (pe_lst (pa_cons pe_str (pa_cons (pv 2) pa_nil))) (nomark _)) (pw_or1 (pt_cmpR (op_neD hr.units) (pe_k Gl_ hr (by rfl) pass0 (pa_cons (pe_callTy call_list_of (by rfl) N.list (by decide +kernel) (pa_cons (pv 2) pa_nil)) pa_nil)) (pe_lst (pa_cons pe_str (pa_cons (pv 2) pa_nil))) (nomark _))))) (pss_one (ps_ret pe_bl)) pss_nil)))
      (pss_cons (ps_set (i := 3) sc_ref.nd rfl (by walk_at "lv") (pe_op op_add pe_int (pe_k G h2 (by rfl) pass0 (pa_cons (pv 0) (pa_cons pe_int pa_nil)))))
      (pss_cons (ps_for PassesOwn.never rfl (pi_list (pe_lst (pa_cons (pe_tup (pa_cons pe_str (pa_cons pe_int pa_nil))) (pa_cons (pe_tup (pa_cons pe_str (pa_cons (pe_un un_neg pe_int) pa_nil))) (pa_cons (pe_tup (pa_cons pe_str (pa_cons pe_int pa_nil))) (pa_cons (pe_tup (pa_cons pe_str (pa_cons (pe_un un_neg pe_int) pa_nil))) (pa_cons (pe_tup (pa_cons pe_str (pa_cons (pv 3) (pa_cons pe_int pa_nil)))) (pa_cons (pe_tup (pa_cons pe_str (pa_cons (pv 3) (pa_cons (pe_op op_sub (pv 3) pe_int) pa_nil)))) pa_nil)))))))) (pg_name (i := 4) sc_ref.nd rfl (by walk_at "lv")) (pss_one (ps_if (PW.pt (pw_or (pt_cmpR (op_neD hr.units) (pe_k Gt hr (by rfl) pass0 (pa_cons (pv 4) pa_nil)) (pe_lst (pa_cons pe_str (pa_cons (pv 4) pa_nil))) (nomark _)) (pw_or1 (pt_cmpR (op_neD hr.units) (pe_k Gt hr (by rfl) pass0 (pa_cons (pe_callTy call_list_of (by rfl) N.list (by decide +kernel) (pa_cons (pv 4) pa_nil)) pa_nil)) (pe_lst (pa_cons pe_str (pa_cons (pv 4) pa_nil))) (nomark _))))) (pss_one (ps_ret pe_bl)) pss_nil)))
      (pss_cons (ps_for PassesOwn.never rfl (pi_range1 (by rfl) N.range (pa_cons pe_int pa_nil)) (pg_name (i := 5) sc_ref.nd rfl (by walk_at "lv")) (pss_cons (ps_if (pt_cmpR (op_neD hr.units) (pe_k Gl_ hr (by rfl) pass0 (pa_cons (pe_k Gol h4 (by rfl) pass0 (pa_cons (pv 0) pa_nil)) pa_nil)) (pe_lst (pa_cons pe_str (pa_cons pe_bl (pa_cons pe_bl pa_nil)))) (nomark _)) (pss_one (ps_ret pe_bl)) pss_nil)
        (pss_one (ps_if (pt_cmpR (op_neD hr.units) (pe_k Gt hr (by rfl) pass0 (pa_cons (pe_k Got h4 (by rfl) pass0 (pa_cons (pv 0) pa_nil)) pa_nil)) (pe_lst (pa_cons pe_str (pa_cons pe_bl (pa_cons pe_bl pa_nil)))) (nomark _)) (pss_one (ps_ret pe_bl)) pss_nil))))
      (pss_one (ps_ret pe_bl))))))), ?_⟩
    have g0 : Goods K fitsL H [] := fun _ z => nomatch z
    refine ⟨(by show 2 ≤ sizeLine; decide), fun ga0 gn0 => ?_⟩
    have gs0 := same_new (o := .tup [V.str "set", V.int 20]) (Same.refl _) gn0
    have g1 : Goods K fitsL _ [V.ref ga0] := g0.push (y := .ref ga0) gs0 ⟨ga0, [V.str "set", V.int 20], [.str "set", .int 20], rfl, upd_same, (fun y hy => by
        simp only [List.mem_cons, List.not_mem_nil, or_false] at hy
        rcases hy with rfl | rfl
        · exact fine_str _ (by decide +kernel)
        · exact fine_int _), (by decide +kernel), fun _ => (.cons (.str _) (.cons (.int _) .nil)), (by decide +kernel), (by decide +kernel)⟩
    refine ⟨_, rfl, (by show 2 ≤ sizeLine; decide), fun ga1 gn1 => ?_⟩
    have gs1 := same_new (o := .tup [V.str "set", V.int (-20)]) (Same.refl _) gn1
    have g2 : Goods K fitsL _ [V.ref ga0, V.ref ga1] := g1.push (y := .ref ga1) gs1 ⟨ga1, [V.str "set", V.int (-20)], [.str "set", .int (-20)], rfl, upd_same, (fun y hy => by
        simp only [List.mem_cons, List.not_mem_nil, or_false] at hy
        rcases hy with rfl | rfl
        · exact fine_str _ (by decide +kernel)
        · exact fine_int _), (by decide +kernel), fun _ => (.cons (.str _) (.cons (.int _) .nil)), (by decide +kernel), (by decide +kernel)⟩
    refine ⟨(by show 2 ≤ sizeLine; decide), fun ga2 gn2 => ?_⟩
    have gs2 := same_new (o := .tup [V.str "add", V.int 20]) (Same.refl _) gn2
    have g3 : Goods K fitsL _ [V.ref ga0, V.ref ga1, V.ref ga2] := g2.push (y := .ref ga2) gs2 ⟨ga2, [V.str "add", V.int 20], [.str "add", .int 20], rfl, upd_same, (fun y hy => by
        simp only [List.mem_cons, List.not_mem_nil, or_false] at hy
        rcases hy with rfl | rfl
        · exact fine_str _ (by decide +kernel)
        · exact fine_int _), (by decide +kernel), fun _ => (.cons (.str _) (.cons (.int _) .nil)), (by decide +kernel), (by decide +kernel)⟩
    refine ⟨_, rfl, (by show 2 ≤ sizeLine; decide), fun ga3 gn3 => ?_⟩
    have gs3 := same_new (o := .tup [V.str "add", V.int (-20)]) (Same.refl _) gn3
    have g4 : Goods K fitsL _ [V.ref ga0, V.ref ga1, V.ref ga2, V.ref ga3] := g3.push (y := .ref ga3) gs3 ⟨ga3, [V.str "add", V.int (-20)], [.str "add", .int (-20)], rfl, upd_same, (fun y hy => by
        simp only [List.mem_cons, List.not_mem_nil, or_false] at hy
        rcases hy with rfl | rfl
        · exact fine_str _ (by decide +kernel)
        · exact fine_int _), (by decide +kernel), fun _ => (.cons (.str _) (.cons (.int _) .nil)), (by decide +kernel), (by decide +kernel)⟩
    refine ⟨(by show 2 ≤ sizeLine; decide), fun ga4 gn4 => ?_⟩
    have gs4 := same_new (o := .tup [V.str "add", V.int 0]) (Same.refl _) gn4
    have g5 : Goods K fitsL _ [V.ref ga0, V.ref ga1, V.ref ga2, V.ref ga3, V.ref ga4] := g4.push (y := .ref ga4) gs4 ⟨ga4, [V.str "add", V.int 0], [.str "add", .int 0], rfl, upd_same, (fun y hy => by
        simp only [List.mem_cons, List.not_mem_nil, or_false] at hy
        rcases hy with rfl | rfl
        · exact fine_str _ (by decide +kernel)
        · exact fine_int _), (by decide +kernel), fun _ => (.cons (.str _) (.cons (.int _) .nil)), (by decide +kernel), (by decide +kernel)⟩
    refine ⟨(by show 1 ≤ sizeLine; decide), fun ga5 gn5 => ?_⟩
    have gs5 := same_new (o := .tup [V.str "turn"]) (Same.refl _) gn5
    have g6 : Goods K fitsL _ [V.ref ga0, V.ref ga1, V.ref ga2, V.ref ga3, V.ref ga4, V.ref ga5] := g5.push (y := .ref ga5) gs5 ⟨ga5, [V.str "turn"], [.str "turn"], rfl, upd_same, (fun y hy => by
        simp only [List.mem_cons, List.not_mem_nil, or_false] at hy
        rcases hy with rfl
        · exact fine_str _ (by decide +kernel)), (by decide +kernel), fun _ => (.cons (.str _) .nil), (by decide +kernel), (by decide +kernel)⟩
    refine ⟨(by show 2 ≤ sizeLine; decide), fun ga6 gn6 => ?_⟩
    have gs6 := same_new (o := .tup [V.str "mod", V.int 1]) (Same.refl _) gn6
    have g7 : Goods K fitsL _ [V.ref ga0, V.ref ga1, V.ref ga2, V.ref ga3, V.ref ga4, V.ref ga5, V.ref ga6] := g6.push (y := .ref ga6) gs6 ⟨ga6, [V.str "mod", V.int 1], [.str "mod", .int 1], rfl, upd_same, (fun y hy => by
        simp only [List.mem_cons, List.not_mem_nil, or_false] at hy
        rcases hy with rfl | rfl
        · exact fine_str _ (by decide +kernel)
        · exact fine_int _), (by decide +kernel), fun _ => (.cons (.str _) (.cons (.int _) .nil)), (by decide +kernel), (by decide +kernel)⟩
    refine ⟨(by show 2 ≤ sizeLine; decide), fun ga7 gn7 => ?_⟩
    have gs7 := same_new (o := .tup [V.str "mod", V.int 6]) (Same.refl _) gn7
    have g8 : Goods K fitsL _ [V.ref ga0, V.ref ga1, V.ref ga2, V.ref ga3, V.ref ga4, V.ref ga5, V.ref ga6, V.ref ga7] := g7.push (y := .ref ga7) gs7 ⟨ga7, [V.str "mod", V.int 6], [.str "mod", .int 6], rfl, upd_same, (fun y hy => by
        simp only [List.mem_cons, List.not_mem_nil, or_false] at hy
        rcases hy with rfl | rfl
        · exact fine_str _ (by decide +kernel)
        · exact fine_int _), (by decide +kernel), fun _ => (.cons (.str _) (.cons (.int _) .nil)), (by decide +kernel), (by decide +kernel)⟩
    have gS := (gs0.trans (gs1.trans (gs2.trans (gs3.trans (gs4.trans (gs5.trans (gs6.trans gs7)))))))
    refine ⟨(by show 8 ≤ sizeLine; decide), fun l nl => ?_⟩
    have gs := same_new (o := .lst [V.ref ga0, V.ref ga1, V.ref ga2, V.ref ga3, V.ref ga4, V.ref ga5, V.ref ga6, V.ref ga7]) (Same.refl _) nl
    have gF : Goods K fitsL _ [V.ref ga0, V.ref ga1, V.ref ga2, V.ref ga3, V.ref ga4, V.ref ga5, V.ref ga6, V.ref ga7] := fun z hz => (g8 z hz).same gs
    refine ⟨_, rfl, l, rfl, ⟨_, SqL.of upd_same⟩, for_it walk_list (fun i σ H2 => ∃ y : Option V, σ = [some (V.ref p), some (V.ref l), y, none, none, none] ∧ Same _ H2) ⟨_, rfl, Same.refl _⟩ (fun i σ H2 _ ⟨_, _, s2⟩ => SqL.of (s2 _ _ upd_same)) ?_ ?_⟩
    · rintro i v σ H2x H2 hi ⟨y, rfl, s2⟩ ⟨rfl, e2⟩
      have gd := (gF v (List.mem_of_getElem? e2)).same s2
      obtain ⟨x, xs, ds, rfl, hx, _⟩ := id gd
      refine ⟨_, rfl, ?_⟩
      dsimp only [tNil, List.append_nil]
      refine told_good (a := x) (Same.refl H2) gd hx (.inr hx) fun q H3 s3 use => ?_
      refine ⟨_, rfl, (by show 2 ≤ sizeLine; decide), fun r hr' => rNe_use (use r hr') ⟨_, rfl, iteF ?_⟩⟩
      have s4 := same_new (o := .lst [V.str "good", V.ref x]) s3 hr'
      refine ⟨_, rfl, x, _, rfl, .inr (SqT.of (s4 _ _ hx)), fun l2 hl2 => ?_⟩
      have s5 := same_new (o := .lst xs) s4 hl2
      dsimp only [tNil, List.append_nil]
      refine told_good (a := x) s5 gd hx (.inl upd_same) fun q2 H6 s6 use2 => ?_
      refine ⟨_, rfl, (by show 2 ≤ sizeLine; decide), fun r2 hr2 => rNe_use (use2 r2 hr2) ⟨_, rfl, iteF ?_⟩⟩
      exact ⟨_, rfl, (s2.trans s5).trans (same_new s6 hr2)⟩
    · rintro σ H2 ⟨y, rfl, s2⟩
      have hh2 := (hh.same (gS.trans gs)).same s2
      refine ⟨_, rfl, p, c, 6, rfl, hh2, ⟨by decide, by decide⟩, fun rm H3 m0 m1 hh3 b3 => ⟨_, _, rfl, rfl, ?_⟩⟩
      obtain ⟨m, em⟩ : ∃ m : Int, m = 1 + rm := ⟨_, rfl⟩
      have hm : 1 ≤ m ∧ m ≤ 6 := by omega
      subst em
      have k0 : Goods K fitsT H3 [] := fun _ z => nomatch z
      refine ⟨(by show 2 ≤ sizeLine; decide), fun ka0 kn0 => ?_⟩
      have ks0 := same_new (o := .tup [V.str "below", V.int 20]) (Same.refl _) kn0
      have k1 : Goods K fitsT _ [V.ref ka0] := k0.push (y := .ref ka0) ks0 ⟨ka0, [V.str "below", V.int 20], [.str "below", .int 20], rfl, upd_same, (fun y hy => by
          simp only [List.mem_cons, List.not_mem_nil, or_false] at hy
          rcases hy with rfl | rfl
          · exact fine_str _ (by decide +kernel)
          · exact fine_int _), (by decide +kernel), fun _ => (.cons (.str _) (.cons (.int _) .nil)), (by decide +kernel), (by decide +kernel)⟩
      refine ⟨_, rfl, (by show 2 ≤ sizeLine; decide), fun ka1 kn1 => ?_⟩
      have ks1 := same_new (o := .tup [V.str "below", V.int (-20)]) (Same.refl _) kn1
      have k2 : Goods K fitsT _ [V.ref ka0, V.ref ka1] := k1.push (y := .ref ka1) ks1 ⟨ka1, [V.str "below", V.int (-20)], [.str "below", .int (-20)], rfl, upd_same, (fun y hy => by
          simp only [List.mem_cons, List.not_mem_nil, or_false] at hy
          rcases hy with rfl | rfl
          · exact fine_str _ (by decide +kernel)
          · exact fine_int _), (by decide +kernel), fun _ => (.cons (.str _) (.cons (.int _) .nil)), (by decide +kernel), (by decide +kernel)⟩
      refine ⟨(by show 2 ≤ sizeLine; decide), fun ka2 kn2 => ?_⟩
      have ks2 := same_new (o := .tup [V.str "is", V.int 20]) (Same.refl _) kn2
      have k3 : Goods K fitsT _ [V.ref ka0, V.ref ka1, V.ref ka2] := k2.push (y := .ref ka2) ks2 ⟨ka2, [V.str "is", V.int 20], [.str "is", .int 20], rfl, upd_same, (fun y hy => by
          simp only [List.mem_cons, List.not_mem_nil, or_false] at hy
          rcases hy with rfl | rfl
          · exact fine_str _ (by decide +kernel)
          · exact fine_int _), (by decide +kernel), fun _ => (.cons (.str _) (.cons (.int _) .nil)), (by decide +kernel), (by decide +kernel)⟩
      refine ⟨_, rfl, (by show 2 ≤ sizeLine; decide), fun ka3 kn3 => ?_⟩
      have ks3 := same_new (o := .tup [V.str "is", V.int (-20)]) (Same.refl _) kn3
      have k4 : Goods K fitsT _ [V.ref ka0, V.ref ka1, V.ref ka2, V.ref ka3] := k3.push (y := .ref ka3) ks3 ⟨ka3, [V.str "is", V.int (-20)], [.str "is", .int (-20)], rfl, upd_same, (fun y hy => by
          simp only [List.mem_cons, List.not_mem_nil, or_false] at hy
          rcases hy with rfl | rfl
          · exact fine_str _ (by decide +kernel)
          · exact fine_int _), (by decide +kernel), fun _ => (.cons (.str _) (.cons (.int _) .nil)), (by decide +kernel), (by decide +kernel)⟩
      refine ⟨_, rfl, (by show 3 ≤ sizeLine; decide), fun ka4 kn4 => ?_⟩
      have ks4 := same_new (o := .tup [V.str "rest", V.int (1 + rm), V.int 0]) (Same.refl _) kn4
      have k5 : Goods K fitsT _ [V.ref ka0, V.ref ka1, V.ref ka2, V.ref ka3, V.ref ka4] := k4.push (y := .ref ka4) ks4 ⟨ka4, [V.str "rest", V.int (1 + rm), V.int 0], [.str "rest", .int (1 + rm), .int 0], rfl, upd_same, (fun y hy => by
          simp only [List.mem_cons, List.not_mem_nil, or_false] at hy
          rcases hy with rfl | rfl | rfl
          · exact fine_str _ (by decide +kernel)
          · exact fine_int _
          · exact fine_int _), (gt1 hm).1, fun _ => (.cons (.str _) (.cons (.int _) (.cons (.int _) .nil))), (gt1 hm).2.1, (gt1 hm).2.2⟩
      refine ⟨_, rfl, _, rfl, _, _, rfl, rfl, (by show 3 ≤ sizeLine; decide), fun ka5 kn5 => ?_⟩
      have ks5 := same_new (o := .tup [V.str "rest", V.int (1 + rm), V.int (1 + rm - 1)]) (Same.refl _) kn5
      have k6 : Goods K fitsT _ [V.ref ka0, V.ref ka1, V.ref ka2, V.ref ka3, V.ref ka4, V.ref ka5] := k5.push (y := .ref ka5) ks5 ⟨ka5, [V.str "rest", V.int (1 + rm), V.int (1 + rm - 1)], [.str "rest", .int (1 + rm), .int (1 + rm - 1)], rfl, upd_same, (fun y hy => by
          simp only [List.mem_cons, List.not_mem_nil, or_false] at hy
          rcases hy with rfl | rfl | rfl
          · exact fine_str _ (by decide +kernel)
          · exact fine_int _
          · exact fine_int _), (gt2 hm).1, fun _ => (.cons (.str _) (.cons (.int _) (.cons (.int _) .nil))), (gt2 hm).2.1, (gt2 hm).2.2⟩
      have kS := (ks0.trans (ks1.trans (ks2.trans (ks3.trans (ks4.trans ks5)))))
      refine ⟨(by show 6 ≤ sizeLine; decide), fun l6 nl6 => ?_⟩
      have ks := same_new (o := .lst [V.ref ka0, V.ref ka1, V.ref ka2, V.ref ka3, V.ref ka4, V.ref ka5]) (Same.refl _) nl6
      have kF : Goods K fitsT _ [V.ref ka0, V.ref ka1, V.ref ka2, V.ref ka3, V.ref ka4, V.ref ka5] := fun z hz => (k6 z hz).same ks
      refine ⟨l6, rfl, ⟨_, SqL.of upd_same⟩, for_it walk_list (fun i σ H4 => ∃ y z : Option V, σ = [some (V.ref p), some (V.ref l), y, some (V.int (1 + rm)), z, none] ∧ Same _ H4) ⟨_, _, rfl, Same.refl _⟩ (fun i σ H4 _ ⟨_, _, _, s4⟩ => SqL.of (s4 _ _ upd_same)) ?_ ?_⟩
      · rintro i v σ H4x H4 hi ⟨y, z, rfl, s4⟩ ⟨rfl, e4⟩
        have gd := (kF v (List.mem_of_getElem? e4)).same s4
        obtain ⟨x, xs, ds, rfl, hx, _⟩ := id gd
        refine ⟨_, rfl, ?_⟩
        dsimp only [tNil, List.append_nil]
        refine told_good (a := x) (Same.refl H4) gd hx (.inr hx) fun q H5 s5 use => ?_
        refine ⟨_, rfl, (by show 2 ≤ sizeLine; decide), fun r hr' => rNe_use (use r hr') ⟨_, rfl, iteF ?_⟩⟩
        have s6 := same_new (o := .lst [V.str "good", V.ref x]) s5 hr'
        refine ⟨_, rfl, x, _, rfl, .inr (SqT.of (s6 _ _ hx)), fun l2 hl2 => ?_⟩
        have s7 := same_new (o := .lst xs) s6 hl2
        dsimp only [tNil, List.append_nil]
        refine told_good (a := x) s7 gd hx (.inl upd_same) fun q2 H8 s8 use2 => ?_
        refine ⟨_, rfl, (by show 2 ≤ sizeLine; decide), fun r2 hr2 => rNe_use (use2 r2 hr2) ⟨_, rfl, iteF ?_⟩⟩
        exact ⟨_, _, rfl, (s4.trans s7).trans (same_new s8 hr2)⟩
      · rintro σ H4 ⟨y, z, rfl, s4⟩
        have hh4 := (hh3.same (kS.trans ks)).same s4
        refine ⟨5, rfl, by decide, by decide, for_range (n := 5) (fun i σ H5 => ∃ y5 : Option V, σ = [some (V.ref p), some (V.ref l), y, some (V.int (1 + rm)), z, y5] ∧ HandC H5 p c) ⟨_, rfl, hh4⟩ ?_ ?_⟩
        · rintro i σ H5 hi ⟨y5, rfl, hh5⟩
          refine ⟨_, rfl, p, c, rfl, hh5, fun x H6 hh6 b6 od => ?_⟩
          dsimp only [tNil, List.append_nil]
          refine told_odd od fun q H7 s7 eq => ?_
          refine ⟨(by show 3 ≤ sizeLine; decide), fun r hr7 => ne_bad (same_new (Same.refl _) hr7 _ _ eq) upd_same ⟨_, rfl, iteF ?_⟩⟩
          have hh8 := hh6.same (same_new (o := .lst [V.str "bad", V.bl true, V.bl false]) s7 hr7)
          refine ⟨_, rfl, p, c, rfl, hh8, fun x2 H9 hh9 b9 od2 => ?_⟩
          dsimp only [tNil, List.append_nil]
          refine told_odd od2 fun q2 H10 s10 eq2 => ?_
          refine ⟨(by show 3 ≤ sizeLine; decide), fun r2 hr2 => ne_bad (same_new (Same.refl _) hr2 _ _ eq2) upd_same ⟨_, rfl, iteF ?_⟩⟩
          exact ⟨_, rfl, hh9.same (same_new s10 hr2)⟩
        · rintro σ H5 ⟨y5, rfl, hh5⟩
          exact k H5
end
end My
set_option Elab.async false
set_option linter.all false
set_option maxRecDepth 100000
set_option maxHeartbeats 8000000
namespace My
open PySem PySem.Spec PyProof.Rows L2
local macro_rules | `(tactic| walk_at "lv") => `(tactic| first | exact Or.inl rfl | exact Or.inr rfl)
/-! ### the law -/
def spLaw (K : PySem.W.Frag) : Sp := fun vs H Q _ => ∃ (a : Addr) (ns : List Int), vs = [.ref a] ∧ SqL K H a (ns.map V.int) ∧ ns.length ≤ 63 ∧ ∀ H', Q (.bl true) H'
abbrev s_law : Stmt := top 73
abbrev N_law : List Str := ["_law_script", "_law_hand_here", "_law_turn", "_law_most", "_law_letter_here", "_law_test_here"]
theorem sc_law : FnScope N_law ["_law_script"] (defScope s_law) := ⟨rfl, rfl, rfl, by decide +kernel, rfl, by decide +kernel, by decide +kernel⟩
structure LawSrc (P : Program) (w : World) (K : PySem.W.Frag) (mg : Str → Option Value) (base : Heap) : Prop where
  n : Nb mg
  hand : Keeps CX0 P w K mg base "_law_hand" 1 ["_law_script"] (spHand K)
  pick : Keeps CX0 P w K mg base "_law_pick" 3 ["_law_hand_here", "_law_things"] spPick
  let_ : Keeps CX0 P w K mg base "_law_letter" 4 ["_law_hand_here", "_law_most", "_law_moduli"] spLet
  tes : Keeps CX0 P w K mg base "_law_test" 4 ["_law_hand_here", "_law_moduli"] spTes
  lh : Keeps CX0 P w K mg base "_law_lots_hold" 7 ["_law_hand_here", "_law_letter_here"] spLH
  nh : Keeps CX0 P w K mg base "_law_numbers_hold" 7 ["_law_hand_here", "_law_letter_here", "_law_test_here"] spNH
  ref : Keeps CX0 P w K mg base "_law_refusals_hold" 6 ["_law_hand_here"] spRef
theorem most_at {i : Nat} {v : V} (h : ([.int 3, .int 20] : List V)[i]? = some v) : ∃ m : Int, v = .int m ∧ 0 ≤ m ∧ m ≤ 20 := by
  match i, h with
  | 0, h => cases h; exact ⟨3, rfl, by decide, by decide⟩
  | 1, h => cases h; exact ⟨20, rfl, by decide, by decide⟩
section
variable {P : Program} {w : World} {K : PySem.W.Frag} {mg : Str → Option Value} {base : Heap}
theorem kp_law {fd : FuncData} (F : FunD K "law" "law" (defArgs s_law) (defBody s_law) (defScope s_law) [] [] (He.ga K "law") fd) (S : LawSrc P w K mg base) : FnOk P w K mg base CX0 8 (He.ga K "law") fd ["_law_script"] (spLaw K) := by
  refine F.ok sc_law (fun vs H Q E h => ?_) (fun cdv A outer s H vs Q E hr h => ?_)
  · obtain ⟨a, ns, rfl, _⟩ := h
    rfl
  · obtain ⟨a, ns, rfl, hS, hlen, k⟩ := h
    have h1 : Room 1 (A.deeper (envOfC "law" (defScope s_law) s.heap.objs.size (He.ga K "law") cdv)) := hr.mono (by decide)
    have h3 : Room 3 (A.deeper (envOfC "law" (defScope s_law) s.heap.objs.size (He.ga K "law") cdv)) := hr.mono (by decide)
    have h4 : Room 4 (A.deeper (envOfC "law" (defScope s_law) s.heap.objs.size (He.ga K "law") cdv)) := hr.mono (by decide)
    have h6 : Room 6 (A.deeper (envOfC "law" (defScope s_law) s.heap.objs.size (He.ga K "law") cdv)) := hr.mono (by decide)
    have main : ∃ tt, PSs (cxOf CX0 P w K mg base N_law "law" (defScope s_law) (He.ga K "law") cdv A outer s H E).nox (defBody s_law) tt ∧ tt { nx := fun _ H' => Q .non H', rt := Q } (start N_law [V.ref a]) H := by
      refine ⟨_, (pss_cons (ps_set (i := 1) sc_law.nd rfl (by walk_at "lv") (pe_k S.hand h1 (by rfl) pass0 (pa_cons (pv 0) pa_nil)))
        (pss_cons (ps_for PassesOwn.never rfl (pi_range1 (by rfl) S.n.range (pa_cons pe_int pa_nil)) (pg_name (i := 2) sc_law.nd rfl (by walk_at "lv")) (pss_cons (ps_set (i := 3) sc_law.nd rfl (by walk_at "lv") (pe_k S.pick h3 (by rfl) pass0 (pa_cons (pv 1) (pa_cons (pe_lst (pa_cons pe_int (pa_cons pe_int pa_nil))) pa_nil))))
        (pss_cons (ps_set (i := 4) sc_law.nd rfl (by walk_at "lv") (pe_k S.let_ h4 (by rfl) pass0 (pa_cons (pv 1) (pa_cons (pv 3) (pa_cons (pe_lst (pa_cons pe_int (pa_cons pe_int (pa_cons pe_int (pa_cons pe_int (pa_cons pe_int (pa_cons pe_int pa_nil))))))) pa_nil)))))
        (pss_cons (ps_set (i := 5) sc_law.nd rfl (by walk_at "lv") (pe_k S.tes h4 (by rfl) pass0 (pa_cons (pv 1) (pa_cons (pe_lst (pa_cons pe_int (pa_cons pe_int (pa_cons pe_int (pa_cons pe_int (pa_cons pe_int (pa_cons pe_int pa_nil))))))) pa_nil))))
        (pss_one (ps_if (PW.pt (pw_or (pt_not (pt_val (pe_k S.lh hr (by rfl) pass0 (pa_cons (pv 1) (pa_cons (pv 4) pa_nil))))) (pw_or1 (pt_not (pt_val (pe_k S.nh hr (by rfl) pass0 (pa_cons (pv 1) (pa_cons (pv 4) (pa_cons (pv 5) pa_nil))))))))) (pss_one (ps_ret pe_bl)) pss_nil))))))
        (pss_one (ps_ret (pe_k S.ref h6 (by rfl) pass0 (pa_cons (pv 1) pa_nil)))))), ?_⟩
      refine ⟨_, rfl, a, ns, rfl, hS, hlen, fun p c H1 _ _ hp s1 => ?_⟩
      refine ⟨2, rfl, by decide, by decide, for_range (n := 2) (fun i σ H2 => ∃ x2 x3 x4 x5 : Option V, σ = [some (V.ref a), some (V.ref p), x2, x3, x4, x5] ∧ HandC H2 p c) ⟨_, _, _, _, rfl, hp⟩ ?_ ?_⟩
      · rintro i σ H2 hi ⟨x2, x3, x4, x5, rfl, hh2⟩
        refine ⟨_, rfl, (by show 2 ≤ sizeLine; decide), fun e1 n1 => ?_⟩
        have s2 := same_new (o := .lst [V.int 3, V.int 20]) (Same.refl H2) n1
        refine ⟨p, c, e1, _, rfl, hh2.same s2, upd_same, hand_ne hh2 n1, ⟨by decide, by decide⟩, fun j v H3 hv hh3 b3 => ?_⟩
        obtain ⟨mo, rfl, mo0, mo1⟩ := most_at hv
        refine ⟨_, rfl, _, rfl, (by show 6 ≤ sizeLine; decide), fun e2 n2 => ?_⟩
        have s3 := same_new (o := .lst mods) (Same.refl H3) n2
        refine ⟨p, c, e2, mo, rfl, hh3.same s3, upd_same, hand_ne hh3 n2, ⟨mo0, mo1⟩, fun l L H4 ok hl hh4 b4 => ?_⟩
        refine ⟨_, rfl, (by show 6 ≤ sizeLine; decide), fun e3 n3 => ?_⟩
        have s4 := same_new (o := .lst mods) (Same.refl H4) n3
        refine ⟨p, c, e3, rfl, hh4.same s4, upd_same, hand_ne hh4 n3, fun t T H5 okT ht hh5 b5 => ?_⟩
        have hl5 := b5 _ _ ((hh4.same s4).nt (s4 _ _ hl)) (s4 _ _ hl)
        refine ⟨_, rfl, _, rfl, p, c, l, L, rfl, hh5, hl5, ok, fun H6 hh6 b6 => ⟨_, rfl, iteF ?_⟩⟩
        refine ⟨_, rfl, _, rfl, _, rfl, p, c, l, t, L, T, rfl, hh6, b6 _ _ (hh5.nt hl5) hl5, ok, b6 _ _ (hh5.nt ht) ht, okT, fun H7 hh7 b7 => ⟨_, rfl, iteF ?_⟩⟩
        exact ⟨_, _, _, _, rfl, hh7⟩
      · rintro σ H2 ⟨x2, x3, x4, x5, rfl, hh2⟩
        exact ⟨_, rfl, p, c, rfl, hh2, fun H3 => k H3⟩
    obtain ⟨tt, d, q⟩ := main
    exact ⟨tt, d.nox, q⟩
end
end My
set_option Elab.async false
set_option linter.all false
set_option maxRecDepth 100000
set_option maxHeartbeats 8000000
namespace My
open PySem PySem.Spec PyProof.Rows L2
local macro_rules | `(tactic| walk_at "lv") => `(tactic| first | exact Or.inl rfl | exact Or.inr rfl)
/-! ### what the law stands on, and what the top leaves -/
theorem propB_ok {K : PySem.W.Frag} (h : propB K = true) : PropOf K (He.ga K "Lot") "bare" (pB K) (gB K) := by
  obtain ⟨h1, h⟩ := and_ok h
  obtain ⟨h2, h⟩ := and_ok h
  obtain ⟨h3, h4⟩ := and_ok h
  refine ⟨of_decide_eq_true h1, of_decide_eq_true h2, of_decide_eq_true h3, ?_⟩
  show ∃ rest, PySem.W.recIn K (pB K) "property" = some (.ref (match PySem.W.recIn K (pB K) "property" with
    | some (.ref f :: _) => f
    | _ => 0) :: rest)
  split at h4
  · rename_i f r e
    rw [e]
    exact ⟨r, rfl⟩
  · cases h4
theorem lot_txt {K : PySem.W.Frag} {mg : Str → Option Value} (h : lotB K = true) (c : clB K = true) (g : mg "Lot" = some (.ref (He.ga K "Lot"))) : LotTxt K mg (He.ga K "Lot") := by
  obtain ⟨h1, h⟩ := and_ok h
  obtain ⟨h2, h⟩ := and_ok h
  obtain ⟨h3, h⟩ := and_ok h
  obtain ⟨h4, h⟩ := and_ok h
  obtain ⟨h5, h⟩ := and_ok h
  obtain ⟨h6, h⟩ := and_ok h
  obtain ⟨h7, h⟩ := and_ok h
  obtain ⟨h8, h9⟩ := and_ok h
  obtain ⟨c1, c2⟩ := and_ok c
  have no : ∀ f, f ∈ (["low", "high", "inside", "modulus", "ups", "downs"] : List Str) → NoAttr K (He.ga K "Lot") f := fun f hf => He.noat_ok (List.all_eq_true.mp h2 f hf)
  exact ⟨He.cls_ok h1, no _ (by decide), no _ (by decide), no _ (by decide), no _ (by decide), no _ (by decide), no _ (by decide), g, of_decide_eq_true h6, of_decide_eq_true c1, of_decide_eq_true c2, of_decide_eq_true h7, of_decide_eq_true h8, of_decide_eq_true h9⟩
theorem err_ok {K : PySem.W.Frag} {h : Heap} {mg : Str → Option Value} (X : K.In h) (G : h.Ns mainGlobals mg) {x y : Str} (c : erB K x y = true) (cl : clB K = true) (gy : mg y = some (.ref (He.ga K y))) : Err0 K mg x y := by
  obtain ⟨c1, c⟩ := and_ok c
  obtain ⟨c2, c⟩ := and_ok c
  obtain ⟨c3, c4⟩ := and_ok c
  obtain ⟨d1, d2⟩ := and_ok cl
  have T : ExF K mg x "BookError" [] := exB_ok X G c1
  exact ⟨T, ⟨T.ga, T.gg, T.exC, T.dict, T.ca, of_decide_eq_true d1, of_decide_eq_true d2, T.mo⟩, of_decide_eq_true c2, of_decide_eq_true c3, gy, He.glo_ok X G c4⟩
theorem law_src {P : Program} {w : World} {K : PySem.W.Frag} {h : Heap} {mg : Str → Option Value} (X : K.In h) (G : h.Ns mainGlobals mg) (b1 : facts K = true) (c : He5.SaysA [] fns K) (base : Heap) : LawSrc P w K mg base := by
  obtain ⟨f1, b1⟩ := and_ok b1
  obtain ⟨f2, b1⟩ := and_ok b1
  obtain ⟨f3, b1⟩ := and_ok b1
  obtain ⟨f4, b1⟩ := and_ok b1
  obtain ⟨f5, b1⟩ := and_ok b1
  obtain ⟨f6, b1⟩ := and_ok b1
  obtain ⟨f7, b1⟩ := and_ok b1
  obtain ⟨f8, f9⟩ := and_ok b1
  have fr : ∀ x, x ∈ blts → mg x = none := fun x hx => He.free_ok X G (List.all_eq_true.mp f1 x hx)
  have gl : ∀ x, x ∈ gnames → mg x = some (.ref (He.ga K x)) := fun x hx => He.glo_ok X G (List.all_eq_true.mp f2 x hx)
  have at_ : ∀ (i : Nat) (x : Str) (st : Stmt), fns[i]? = some (dG x st) → x ∈ gnames → At K mg x st := fun i x st hi hm => ⟨gl _ hm, c.def_ i (d := dG x st) hi⟩
  have am : ∀ (i : Nat) (m q : Str) (st : Stmt), fns[i]? = some (dM "Lot" m q st) → AtM K (He.ga K "Lot") (He.ma K (He.ga K "Lot") m) m q st := fun i m q st hi => c.def_ i (d := dM "Lot" m q st) hi
  have N : Nb mg := ⟨fr _ (by decide), fr _ (by decide), fr _ (by decide), fr _ (by decide), fr _ (by decide), fr _ (by decide), fr _ (by decide), fr _ (by decide), fr _ (by decide), fr _ (by decide), fr _ (by decide), fr _ (by decide), fr _ (by decide), fr _ (by decide)⟩
  have nMax : mg "max" = none := fr _ (by decide)
  have nSor : mg "sorted" = none := fr _ (by decide)
  obtain ⟨g1, g2⟩ := and_ok f6
  obtain ⟨g2, g3⟩ := and_ok g2
  obtain ⟨g3, g4⟩ := and_ok g3
  obtain ⟨g4, g5⟩ := and_ok g4
  obtain ⟨g5, g6⟩ := and_ok g5
  obtain ⟨g6, g7⟩ := and_ok g6
  have gL := He.glo_ok X G g1
  have mF := He.int_ok X G g2
  have mM := He.int_ok X G g3
  have gLcm : mg "lcm" = some (.builtin "math.lcm") := PySem.W.mg_of X G (He.eqO_ok g4)
  have gGcd : mg "gcd" = some (.builtin "math.gcd") := PySem.W.mg_of X G (He.eqO_ok g5)
  have m20 := He.int_ok X G g6
  have m6 := He.int_ok X G g7
  have T := lot_txt f3 f7 gL
  have e1 := f5
  have T0 : ExF K mg "TooLong" "BookError" ["most"] := exB_ok X G e1
  obtain ⟨x1, _⟩ := and_ok f8
  obtain ⟨x2, _⟩ := and_ok f9
  have TLs : ExF K mg "BadLetter" "BookError" [] := exB_ok X G x1
  have TTs : ExF K mg "BadTest" "BookError" [] := exB_ok X G x2
  have TL := err_ok X G f8 f7 TTs.g
  have TT := err_ok X G f9 f7 TLs.g
  obtain ⟨_, l⟩ := and_ok f3
  obtain ⟨_, l⟩ := and_ok l
  obtain ⟨l3, l⟩ := and_ok l
  obtain ⟨l4, l⟩ := and_ok l
  obtain ⟨l5, _⟩ := and_ok l
  have M := He.mkr_ok l3
  have mC := He.meth_ok l4
  have mE := He.meth_ok l5
  have KI : KeepsM P w K mg base (He.ma K (He.ga K "Lot") "__init__") 1 ["self", "low", "high", "inside", "modulus", "ups", "downs"] (spLotI (He.ga K "Lot")) := kp_lotI (am 58 _ _ _ rfl) T N
  have KJ : KeepsM P w K mg base (He.ma K (He.ga K "Lot") "__init__") 1 ["self", "low", "high", "inside", "modulus", "ups", "downs"] (spLotJ (He.ga K "Lot")) := kp_lotJ (am 58 _ _ _ rfl) T N
  have KC : KeepsM P w K mg base (He.ma K (He.ga K "Lot") "__contains__") 1 ["self", "number"] (spLotC (He.ga K "Lot")) := kp_lotC (am 59 _ _ _ rfl) T
  have KE : KeepsM P w K mg base (He.ma K (He.ga K "Lot") "__eq__") 1 ["self", "other"] (spLotE (He.ga K "Lot")) := kp_lotE (am 60 _ _ _ rfl) T N
  have KT : KeepsI P w K mg base "TooLong" ["most"] := ki_TooLong (c.def_ 61 (d := dM "TooLong" "__init__" "TooLong.__init__" (inClass (top 8) 0)) rfl) T0
  have KB : KeepsM P w K mg base (gB K) 1 ["self"] (spLotB (He.ga K "Lot")) := kp_lotB (C := He.ga K "Lot") (c.def_ 62 (d := dB) rfl) T
  have S : Lots P w K mg base := ⟨T, M, KI, T0, KT⟩
  have SM : LotM P w K mg base := ⟨T, mC.1, mC.2, KC, mE.1, mE.2, KE, pB K, gB K, propB_ok f4, KB⟩
  have G0 : Keeps CX0 P w K mg base "is_whole" 1 ["thing"] spWhole := kp_whole (at_ 0 _ _ rfl (by decide)) N
  have G1 : Keeps CX0 P w K mg base "is_whole_from" 2 ["thing", "low", "high"] spWholeF := kp_wholeF (at_ 1 _ _ rfl (by decide)) G0
  have G2 : Keeps CX0 P w K mg base "is_sequence" 1 ["thing"] spSeq := kp_seq (at_ 2 _ _ rfl (by decide)) N
  have G0D : Keeps CX0 P w K mg base "is_whole" 1 ["thing"] (spWhD K) := kp_whD (at_ 0 _ _ rfl (by decide)) N
  have G1D : Keeps CX0 P w K mg base "is_whole_from" 2 ["thing", "low", "high"] (spWfD K) := kp_wfD (at_ 1 _ _ rfl (by decide)) G0D
  have G2D : Keeps CX0 P w K mg base "is_sequence" 1 ["thing"] spSeqD := kp_seqD (at_ 2 _ _ rfl (by decide)) N
  have G4 : Keeps CX0 P w K mg base "_check_core" 2 ["low", "high"] spCore := kp_core (at_ 4 _ _ rfl (by decide)) G0 mF
  have G5 : Keeps CX0 P w K mg base "_are_unlike_from" 3 ["numbers", "low", "high"] spUnl := kp_unl (at_ 5 _ _ rfl (by decide)) G1 G2
  have G7 : Keeps CX0 P w K mg base "_flags" 1 ["low", "high", "numbers"] spFlags := kp_flags (at_ 7 _ _ rfl (by decide))
  have G8 : Keeps CX0 P w K mg base "_places_of" 1 ["flags"] spPlaces := kp_places (at_ 8 _ _ rfl (by decide)) N
  have G10 : Keeps CX0 P w K mg base "_repeats" 1 ["flags", "length"] spRep := kp_rep (at_ 10 _ _ rfl (by decide))
  have G9 : Keeps CX0 P w K mg base "_least_modulus" 2 ["ups", "downs"] spLM := kp_lm (at_ 9 _ _ rfl (by decide)) G10 N
  have G11 : Keeps CX0 P w K mg base "_greatest_wrong" 1 ["low", "core", "ups", "downs"] spGW := kp_gw (at_ 11 _ _ rfl (by decide)) N
  have G12 : Keeps CX0 P w K mg base "_least_wrong" 1 ["low", "core", "ups", "downs"] spLW := kp_lw (at_ 12 _ _ rfl (by decide)) N
  have G6 : Keeps (CX P w) P w K mg base "_lot_of" 3 ["low", "high", "inside", "modulus", "ups", "downs"] (spLotOf K) := kp_lotof (at_ 6 _ _ rfl (by decide)) N S mF G7 G9 G11 G12 G8
  have G3 : Keeps (CX P w) P w K mg base "make_lot" 4 ["low", "high", "inside", "modulus", "ups", "downs"] (spMake K) := kp_make (at_ 3 _ _ rfl (by decide)) mM G4 G5 G1 G6
  have G13 : Keeps CX0 P w K mg base "empty_lot" 3 [] (spLit K [] []) := kp_emp (at_ 13 _ _ rfl (by decide)) S KJ
  have G14 : Keeps CX0 P w K mg base "whole_lot" 3 [] (spLit K [0] [0]) := kp_whl (at_ 14 _ _ rfl (by decide)) S KJ
  have G15 : Keeps (CX P w) P w K mg base "just_lot" 4 ["numbers"] (spJust K) := kp_just (at_ 15 _ _ rfl (by decide)) N.min nMax G13 G6
  have G16 : Keeps (CX P w) P w K mg base "range_lot" 4 ["low", "high"] (spRange K) := kp_range (at_ 16 _ _ rfl (by decide)) N G13 G14 G6
  have G17 : Keeps (CX P w) P w K mg base "_common_modulus" 3 ["one", "other"] (spCM K) := kp_cm (at_ 17 _ _ rfl (by decide)) S gLcm mM
  have G18 : Keeps CX0 P w K mg base "lot_flags" 2 ["lot", "low", "high"] (spLF (He.ga K "Lot")) := kp_lf (at_ 18 _ _ rfl (by decide)) T N nMax G7
  have G19 : Keeps (CX P w) P w K mg base "moved_lot" 4 ["lot", "by"] (spMoved K) := kp_moved (at_ 19 _ _ rfl (by decide)) T G6
  have G20 : Keeps (CX P w) P w K mg base "turned_lot" 4 ["lot"] (spTn K) := kp_tnd (at_ 20 _ _ rfl (by decide)) T G6
  have G21 : Keeps (CX P w) P w K mg base "rest_lot" 5 ["lot", "many"] (spRest K) := kp_rest (at_ 21 _ _ rfl (by decide)) T N nSor gGcd G15
  have G23 : Keeps CX0 P w K mg base "least_by_size" 1 ["flags"] spBS := kp_bs (at_ 23 _ _ rfl (by decide)) N
  have G22 : Keeps (CX P w) P w K mg base "within" 4 ["one", "other"] (spWi K) := kp_wi (at_ 22 _ _ rfl (by decide)) T N nMax G17 G18 G23
  have G24 : Keeps CX0 P w K mg base "fits_letter" 3 ["letter"] (spFit K fitsL) := kp_fl (at_ 24 _ _ rfl (by decide)) N m20 m6 G2D G1D
  have G25 : Keeps CX0 P w K mg base "fits_test" 3 ["test"] (spFit K fitsT) := kp_ft (at_ 25 _ _ rfl (by decide)) N m20 m6 G2D G1D
  have G26 : Keeps (CX P w) P w K mg base "check_letter" 4 ["letter"] (spChk K fitsL "BadLetter") := kp_cl (at_ 26 _ _ rfl (by decide)) N TL G24
  have G27 : Keeps (CX P w) P w K mg base "check_test" 4 ["test"] (spChk K fitsT "BadTest") := kp_ct (at_ 27 _ _ rfl (by decide)) N TT G25
  have G28 : Keeps CX0 P w K mg base "do_letter" 1 ["letter", "number"] spDeed := kp_do (at_ 28 _ _ rfl (by decide))
  have G29 : Keeps CX0 P w K mg base "passes" 1 ["test", "number"] spPass := kp_pass (at_ 29 _ _ rfl (by decide))
  have G31 : Keeps CX0 P w K mg base "_lot_of_rests" 5 ["modulus", "rests"] (spLR K) := kp_lr (at_ 31 _ _ rfl (by decide)) G3
  have G30 : Keeps CX0 P w K mg base "lot_of_test" 6 ["test"] (spLT K) := kp_lt (at_ 30 _ _ rfl (by decide)) G16 G15 G31
  have G32 : Keeps CX0 P w K mg base "lot_after" 6 ["letter", "lot"] (spAft K) := kp_aft (at_ 32 _ _ rfl (by decide)) SM G13 G15 G19 G20 G21
  have G33 : Keeps CX0 P w K mg base "lot_before" 6 ["letter", "lot"] (spBef K) := kp_bef (at_ 33 _ _ rfl (by decide)) N SM G13 G14 G19 G20 G31
  have G34 : Keeps CX0 P w K mg base "_law_hand" 1 ["_law_script"] (spHand K) := kp_hand (at_ 34 _ _ rfl (by decide)) N.int N.len N.abs
  have G35 : Keeps CX0 P w K mg base "_law_mixed" 1 ["_law_number", "_law_turn"] spMix := kp_mix (at_ 35 _ _ rfl (by decide)) N.int
  have G36 : Keeps CX0 P w K mg base "_law_draw" 2 ["_law_hand_here", "_law_many"] spDraw := kp_draw (at_ 36 _ _ rfl (by decide)) G35 N.int N.len
  have G37 : Keeps CX0 P w K mg base "_law_pick" 3 ["_law_hand_here", "_law_things"] spPick := kp_pick (at_ 37 _ _ rfl (by decide)) N G36
  have G38 : Keeps CX0 P w K mg base "_law_whole" 1 ["_law_thing"] spWhole := kp_lwh (at_ 38 _ _ rfl (by decide)) N
  have G39 : Keeps CX0 P w K mg base "_law_value" 3 ["_law_hand_here"] spVal := kp_val (at_ 39 _ _ rfl (by decide)) G36
  have G40 : Keeps CX0 P w K mg base "_law_letter" 4 ["_law_hand_here", "_law_most", "_law_moduli"] spLet := kp_let (at_ 40 _ _ rfl (by decide)) G36 G37 G39
  have G41 : Keeps CX0 P w K mg base "_law_test" 4 ["_law_hand_here", "_law_moduli"] spTes := kp_tes (at_ 41 _ _ rfl (by decide)) G36 G37 G39
  have G42 : Keeps CX0 P w K mg base "_law_deed" 1 ["_law_letter_here", "_law_number"] spDeed := kp_deed (at_ 42 _ _ rfl (by decide))
  have G43 : Keeps CX0 P w K mg base "_law_passes" 1 ["_law_test_here", "_law_number"] spPass := kp_lps (at_ 43 _ _ rfl (by decide)) N
  have G44 : Keeps CX0 P w K mg base "_law_six" 3 ["_law_hand_here", "_law_most", "_law_wide"] spSix := kp_six (at_ 44 _ _ rfl (by decide)) N G36
  have G45 : Keeps CX0 P w K mg base "_law_in" 1 ["_law_six_here", "_law_number"] spInS := kp_in (at_ 45 _ _ rfl (by decide)) N
  have G46 : Keeps CX0 P w K mg base "_law_lot" 5 ["_law_six_here"] (spLlt K) := kp_llt (at_ 46 _ _ rfl (by decide)) N G3
  have G47 : Keeps CX0 P w K mg base "_law_images" 2 ["_law_letter_here", "_law_six_here", "_law_wide"] spIm := kp_im (at_ 47 _ _ rfl (by decide)) N G45 G42
  have G48 : Keeps CX0 P w K mg base "_law_image_has" 2 ["_law_letter_here", "_law_six_here", "_law_images_here", "_law_number"] spImH := kp_imh (at_ 48 _ _ rfl (by decide)) G45
  have G49 : Keeps CX0 P w K mg base "_law_numbers" 3 ["_law_hand_here", "_law_wide"] spNums := kp_nums (at_ 49 _ _ rfl (by decide)) N G36
  have G50 : Keeps CX0 P w K mg base "_law_lots_hold" 7 ["_law_hand_here", "_law_letter_here"] spLH := kp_lh (at_ 50 _ _ rfl (by decide)) ⟨N, nMax, SM, G44, G37, G46, G32, G33, G47, G48, G49, G45, G42, G22⟩
  have G51 : Keeps CX0 P w K mg base "_law_numbers_hold" 7 ["_law_hand_here", "_law_letter_here", "_law_test_here"] spNH := kp_nh (at_ 51 _ _ rfl (by decide)) ⟨N, SM, G30, G49, G28, G42, G29, G43, G38⟩
  have G52 : Keeps CX0 P w K mg base "_law_letter_told" 5 ["_law_letter_here"] (spTold K fitsL) := kp_lto (at_ 52 _ _ rfl (by decide)) N TL G26
  have G53 : Keeps CX0 P w K mg base "_law_test_told" 5 ["_law_test_here"] (spTold K fitsT) := kp_tto (at_ 53 _ _ rfl (by decide)) N TT G27
  have G54 : Keeps CX0 P w K mg base "_law_odd_letter" 4 ["_law_hand_here"] (spOdd K fitsL) := kp_ol (at_ 54 _ _ rfl (by decide)) G36 G37
  have G55 : Keeps CX0 P w K mg base "_law_odd_test" 4 ["_law_hand_here"] (spOdd K fitsT) := kp_ot (at_ 55 _ _ rfl (by decide)) G36 G37
  have G56 : Keeps CX0 P w K mg base "_law_refusals_hold" 6 ["_law_hand_here"] spRef := kp_ref (at_ 56 _ _ rfl (by decide)) N G36 G52 G53 G54 G55
  exact ⟨N, G34, G37, G40, G41, G50, G51, G56⟩
theorem law_at {K : PySem.W.Frag} {h : Heap} {mg : Str → Option Value} (X : K.In h) (G : h.Ns mainGlobals mg) (b1 : facts K = true) : mg "law" = some (.ref (He.ga K "law")) := by
  obtain ⟨_, b1⟩ := and_ok b1
  obtain ⟨f2, _⟩ := and_ok b1
  exact He.glo_ok X G (List.all_eq_true.mp f2 "law" (by decide))
theorem binds_law {K : PySem.W.Frag} {fd : FuncData} (F : FunD K "law" "law" (defArgs s_law) (defBody s_law) (defScope s_law) [] [] (He.ga K "law") fd) (s : Shared) (u : Value) : BindsTo s fd ⟨[u], []⟩ [("_law_script", u)] :=
  FunD.bindsA (ps := ["_law_script"]) F (fun _ _ _ _ _ _ us hl => match us, hl with | [_], _ => rfl) s [u] rfl
end My
set_option Elab.async false
set_option linter.all false
set_option maxRecDepth 100000
set_option maxHeartbeats 8000000
open PySem PySem.W PySem.Calls PyProof.Rows
theorem PySem.Challenge.cw_truebooks_k07_whole_letters_and_tests_on_holds : PySem.Challenge.rw_truebooks_k07_whole_letters_and_tests_on.Holds := by
  w_on; o_law
  refine HandSHeadRun.head_imp (r := My.R) (q := view My.R.prog [0, 73]) (H := My.hk) (ob := My.ob) (M := 12000) (loose := My.looseN) (d := HandSHeadRun.topDef My.R.prog 73) (kwd := []) My.ob_eq
    My.run (by kernel_rfl) (by kernel_rfl) (by kernel_rfl) (by rfl) (by first | assumption | decide +kernel) (by decide +kernel) ⟨rfl, rfl, rfl, rfl, rfl, by decide +kernel⟩ ?hw ?hc
  case hw => w_witness2
  case hc =>
    refine L2.walk_ofE (l := PySem.Challenge.rw_truebooks_k07_whole_letters_and_tests_on) (n := 63) (k := 8) (x := "_law_script") (CX := L2.CX0) rfl (by decide) (by kernel_rfl) ⟨rfl, by decide, by decide⟩ ?F (fun _ _ _ _ z => z)
    intro w mg fa h Y G hmg0
    obtain ⟨K, KX, c⟩ := Y
    have c1 : My.facts K = true := congrArg (fun z : My.AlM => z.1) c
    have c2 : He5.SaysA [] My.fns K := congrArg (fun z : My.AlM => z.2) c
    have hmg : mg ("law" : PySem.Str) = some (.ref fa) := by
      have e : (HandSHeadRun.topDef My.R.prog 73).name = ("law" : PySem.Str) := by kernel_rfl
      rw [← e]
      exact hmg0
    obtain ⟨fd0, F0⟩ := c2.def_ 57 (d := My.dG "law" My.s_law) rfl
    have ea : fa = He.ga K "law" := by
      have m0 := My.law_at KX G c1
      rw [hmg] at m0
      exact Value.ref.inj (Option.some.inj m0)
    subst ea
    exact ⟨K, fd0, My.spLaw K, KX, fun s u => My.binds_law F0 s u, fun H a ns hl _ hS => ⟨a, ns, rfl, hS, hl, fun _ => rfl⟩, fun base _ _ => My.kp_law F0 (My.law_src KX G c1 c2 base)⟩
