import PyProof.Rows.All
import Wide.All
import OpenK.AllK
import Wide.FinOn
import HandS.ForMost
import HandS.Wide
import HandS.Walk
import HandS.Defaults
import HandS.Exc
import HandS.ExcInit
import HandS.ExcIs
import KE.KExcIs
import HandS.ExcField
import HandS.ExcValue
import HandS.IsInst
import HandS.TryOnly
import HandS.ExcOwn
import HandS.WordsExc
import HandS.Head0
import HandS.Head1
import HandS.Head2
import HandS.HeadEnd
import HandS.HeadHook1
import HandS.HeadHook2
import HandS.HotCalls
import PySem.Challenge.RW_truebooks_k97_errors_stand_alone
set_option Elab.async false
set_option linter.all false
set_option maxRecDepth 100000
set_option maxHeartbeats 8000000
/-! common words of the proofs -/
namespace My
open PySem PySem.Spec PyProof.Rows L2
def top (i : Nat) : Stmt := PySem.Challenge.pw_truebooks_k97_errors_stand_alone.main.body.getD i (.Pass ⟨0, 0, 0, 0⟩)
/-- the def at the module's name x keeps its promise -/
def Keeps (CX : CXT) (P : Program) (w : World) (K : PySem.W.Frag) (mg : Str → Option Value) (base : Heap) (x : Str) (k : Nat) (ps : List Str) (sp : Sp) : Prop :=
  ∃ fd, FnOk P w K mg base CX k (He.ga K x) fd ps sp ∧ Binds K fd ps [] ∧ PySem.W.keepIn K (.ref (He.ga K x)) = true ∧ mg x = some (.ref (He.ga K x))
theorem pe_k {X : Cx} {CX : CXT} {k : Nat} {ps : List Str} {sp : Sp} {E : XK} {x : Str} {p pos : Pos} {e : Expr} {es : List Expr} {t : TA} (h : Keeps CX X.prog X.w X.K X.mg X.base x k ps sp) (hr : Room k X.A) (hg : Gl X x) (hx : Passes CX X E)
    (ha : PA X (e :: es) t) (dbg : (x == ("__debug__" : Str)) = false := by decide) (hst : starEach (e :: es) X.env = (false, eval e X.env) :: starEach es X.env := by rfl) (hpl : (backTo pos (starEach es X.env)).any (·.1) = false := by rfl) :
    PE X (.Call (.Name x p) (e :: es) [] pos) (tCall sp [] E t) := by
  obtain ⟨fd, F, b, kp, m⟩ := h
  exact pe_call F hr hg m kp b .nil hx ha dbg hst hpl
/-- a def of the top, as it stands -/
def At (K : PySem.W.Frag) (mg : Str → Option Value) (x : Str) (st : Stmt) : Prop := mg x = some (.ref (He.ga K x)) ∧ ∃ fd, FunD K x x (defArgs st) (defBody st) (defScope st) [] [] (He.ga K x) fd
abbrev bindsBy (st : Stmt) (x : Str) (ps : List Str) : Prop := ∀ (kV doc pm : Value) (an : Option Addr) (cdv ct : Value) (us : List Value), us.length = ps.length → bindArgs (PySem.W.fnOf x x (defArgs st) (defBody st) (defScope st) .none kV doc pm an cdv ct) ⟨us, []⟩ = pure (ps.zip us)
section
variable {CX : CXT} {P : Program} {w : World} {K : PySem.W.Frag} {mg : Str → Option Value} {base : Heap}
theorem keeps_ofX {x : Str} {st : Stmt} {N ps : List Str} {k : Nat} {sp : Sp} (F : At K mg x st) (S : FnScope N ps (defScope st)) (hb : bindsBy st x ps) (len : ∀ vs H Q E, sp vs H Q E → vs.length = ps.length)
    (hbody : ∀ (f : Addr) (cdv : Value) (A : Around) (outer : List Env) (s : Shared) (H : Hp) (vs : List V) (Q : VK) (E : XK), Room k (A.deeper (envOfC x (defScope st) s.heap.objs.size f cdv)) → sp vs H Q E →
      ∃ t, PSs (cxOf CX P w K mg base N x (defScope st) f cdv A outer s H E) (defBody st) t ∧ t { nx := fun _ H' => Q .non H', rt := Q } (start N vs) H) : Keeps CX P w K mg base x (k + 1) ps sp := by
  obtain ⟨m, fd, F⟩ := F
  exact ⟨fd, F.ok S len (hbody _), F.bindsN hb, F.kp, m⟩
theorem keeps_of {x : Str} {st : Stmt} {N ps : List Str} {k : Nat} {sp : Sp} (F : At K mg x st) (S : FnScope N ps (defScope st)) (hb : bindsBy st x ps) (len : ∀ vs H Q E, sp vs H Q E → vs.length = ps.length)
    (hbody : ∀ (f : Addr) (cdv : Value) (A : Around) (outer : List Env) (s : Shared) (H : Hp) (vs : List V) (Q : VK) (E : XK), Room k (A.deeper (envOfC x (defScope st) s.heap.objs.size f cdv)) → sp vs H Q E →
      ∃ t, PSs (cxOf CX0 P w K mg base N x (defScope st) f cdv A outer s H E).nox (defBody st) t ∧ t { nx := fun _ H' => Q .non H', rt := Q } (start N vs) H) : Keeps CX0 P w K mg base x (k + 1) ps sp :=
  keeps_ofX F S hb len fun f cdv A outer s H vs Q E hr h => by
    obtain ⟨t, h1, h2⟩ := hbody f cdv A outer s H vs Q E hr h
    exact ⟨t, h1.nox, h2⟩
end
/-- all but p as it was -/
def But (p : Addr) (H H' : Hp) : Prop := ∀ b o, b ≠ p → H b = some o → H' b = some o
/-- a hand of draws stands at p -/
def HandAt (H : Hp) (p : Addr) : Prop := ∃ (c : Addr) (cs : List Int) (at_ rest total : Int), H p = some (.lst [.ref c, .int at_, .int rest, .int total]) ∧ H c = some (.lst (cs.map V.int)) ∧ 0 ≤ at_
theorem HandAt.ne {H : Hp} {p : Addr} (h : HandAt H p) : H p ≠ none := by
  obtain ⟨_, _, _, _, _, e, _⟩ := h
  rw [e]
  exact fun z => nomatch z
local macro_rules | `(tactic| walk_at "lv") => `(tactic| first | exact Or.inl rfl | exact Or.inr rfl)
/-! ### _law_mix -/
def spMix : Sp := fun vs H Q _ => ∃ a b : Int, vs = [.int a, .int b] ∧ ∀ r : Int, Q (.int r) H
abbrev s_mix : Stmt := top 48
abbrev N_mix : List Str := ["_law_number", "_law_turn", "_law_once", "_law_twice"]
theorem sc_mix : FnScope N_mix ["_law_number", "_law_turn"] (defScope s_mix) := ⟨rfl, rfl, rfl, by decide +kernel, rfl, by decide +kernel, by decide +kernel⟩
section
variable {P : Program} {w : World} {K : PySem.W.Frag} {mg : Str → Option Value} {base : Heap}
theorem mod_lt31 {a m : Int} (h : 0 < m) (hm : m < 2 ^ 40) : -(2 ^ 64) < a % m ∧ a % m < 2 ^ 64 := by
  have h1 := Int.emod_nonneg a (b := m) (by omega)
  have h2 := Int.emod_lt_of_pos a h
  omega
theorem kp_mix (F : At K mg "_law_mix" s_mix) (nI : mg "int" = none) : Keeps CX0 P w K mg base "_law_mix" 1 ["_law_number", "_law_turn"] spMix := by
  refine keeps_of F sc_mix (fun _ _ _ _ _ _ us hl => match us, hl with | [_, _], _ => rfl) (fun vs H Q E h => ?_) (fun f cdv A outer s H vs Q E hr h => ?_)
  · obtain ⟨a, b, rfl, _⟩ := h
    rfl
  · obtain ⟨a, b, rfl, k⟩ := h
    refine ⟨_, (pss_cons (ps_set (i := 2) sc_mix.nd rfl (by walk_at "lv") (pe_op op_mod (pe_callTy call_int1 (by rfl) nI boot_int (pa_cons (pe_op op_add (pe_op op_add (pe_op op_mul (pv 0) pe_int) (pe_op op_mul (pv 1) pe_int)) pe_int) pa_nil)) pe_int))
        (pss_cons (ps_set (i := 3) sc_mix.nd rfl (by walk_at "lv") (pe_op op_mod (pe_callTy call_int1 (by rfl) nI boot_int (pa_cons (pe_op op_add (pe_op op_add (pe_op op_mul (pv 2) (pv 2)) (pe_op op_mul (pe_op op_fdiv (pv 2) pe_int) pe_int)) (pe_op op_mul (pv 1) pe_int)) pa_nil)) pe_int))
        (pss_one (ps_ret (pe_op op_fdiv (pe_op op_mod (pe_callTy call_int1 (by rfl) nI boot_int (pa_cons (pe_op op_add (pe_op op_fdiv (pe_op op_mul (pv 3) (pv 3)) pe_int) (pv 2)) pa_nil)) pe_int) pe_int))))), ?_⟩
    refine ⟨_, rfl, _, _, rfl, rfl, .inr ⟨by decide, by decide⟩, _, rfl, _, _, rfl, rfl, .inr ⟨by decide, by decide⟩, _, _, rfl, rfl, _, _, rfl, rfl, .inl ⟨_, rfl, _, _, rfl, rfl, (by show (0 : Int) < _; decide), ?_⟩⟩
    refine ⟨_, rfl, _, rfl, _, _, rfl, rfl, .inl (mod_lt31 (by decide) (by decide)), _, rfl, _, _, rfl, rfl, ⟨by decide, by decide⟩, _, _, rfl, rfl, .inr ⟨by decide, by decide⟩, _, _, rfl, rfl, _, rfl, _, _, rfl, rfl, .inr ⟨by decide, by decide⟩, _, _, rfl, rfl, .inl ⟨_, rfl, _, _, rfl, rfl, (by show (0 : Int) < _; decide), ?_⟩⟩
    refine ⟨_, rfl, _, rfl, _, _, rfl, rfl, .inl (mod_lt31 (by decide) (by decide)), _, _, rfl, rfl, ⟨by decide, by decide⟩, _, rfl, _, _, rfl, rfl, .inl ⟨_, rfl, _, _, rfl, rfl, (by show (0 : Int) < _; decide), _, _, rfl, rfl, ⟨by decide, by decide⟩, k _⟩⟩
/-! ### _law_hand -/
def spHand (K : PySem.W.Frag) : Sp := fun vs H Q _ => ∃ (a : Addr) (ns : List Int), vs = [.ref a] ∧ SqL K H a (ns.map V.int) ∧ ns.length ≤ 63 ∧ ∀ p H', H p = none → HandAt H' p → Same H H' → Q (.ref p) H'
abbrev s_hand : Stmt := top 49
abbrev N_hand : List Str := ["_law_script", "_law_total", "_law_at", "_law_cell"]
theorem sc_hand : FnScope N_hand ["_law_script"] (defScope s_hand) := ⟨rfl, rfl, rfl, by decide +kernel, rfl, by decide +kernel, by decide +kernel⟩
theorem int_at {ns : List Int} {i : Nat} {x : V} (h : (ns.map V.int)[i]? = some x) : ∃ z, ns[i]? = some z ∧ x = .int z := by
  rw [List.getElem?_map] at h
  cases e : ns[i]? with
  | none =>
    rw [e] at h
    cases h
  | some z =>
    rw [e] at h
    exact ⟨z, rfl, (Option.some.inj h).symm⟩
theorem kp_hand (F : At K mg "_law_hand" s_hand) (nI : mg "int" = none) (nE : mg "enumerate" = none) (nA : mg "abs" = none) : Keeps CX0 P w K mg base "_law_hand" 1 ["_law_script"] (spHand K) := by
  refine keeps_of F sc_hand (fun _ _ _ _ _ _ us hl => match us, hl with | [_], _ => rfl) (fun vs H Q E h => ?_) (fun f cdv A outer s H vs Q E hr h => ?_)
  · obtain ⟨a, ns, rfl, _⟩ := h
    rfl
  · obtain ⟨a, ns, rfl, hS, hlen, k⟩ := h
    refine ⟨_, (pss_cons (ps_set (i := 1) sc_hand.nd rfl (by walk_at "lv") pe_int)
        (pss_cons (ps_for PassesOwn.never rfl (pi_enum (by rfl) nE (pa_cons (pv 0) pa_nil)) (pg_tup (by rfl) (pgs_cons (pg_name (i := 2) sc_hand.nd rfl (by walk_at "lv")) (pgs_cons (pg_name (i := 3) sc_hand.nd rfl (by walk_at "lv")) pgs_nil))) (pss_one (ps_set (i := 1) sc_hand.nd rfl (by walk_at "lv") (pe_op op_mod (pe_callTy call_int1 (by rfl) nI boot_int (pa_cons (pe_op op_add (pe_op op_mul (pv 1) pe_int) (pe_op op_mul (pe_callTy call_int1 (by rfl) nI boot_int (pa_cons (pv 3) pa_nil)) (pe_op op_add (pe_op op_mul pe_int (pv 2)) pe_int))) pa_nil)) pe_int))))
        (pss_one (ps_ret (pe_lst (pa_cons (pe_lc (own := [("_law_cell", 3)]) (g := gName 3) (tt := tYes) rfl sc_hand.nd (pi_list (pv 0)) (blkOk_by (N := N_hand) (sc := defScope s_hand) (by decide +kernel)) (fun _ _ _ _ _ => (pg_name (i := 3) sc_hand.nd rfl (by walk_at "lv"))) (fun _ _ _ _ _ => pts_nil) (fun _ _ _ _ _ => (pe_callB call_abs (by rfl) nA boot_abs (pa_cons (pe_callTy call_int1 (by rfl) nI boot_int (pa_cons (pv 3) pa_nil)) pa_nil)))) (pa_cons pe_int (pa_cons pe_int (pa_cons (pv 1) pa_nil))))))))), ?_⟩
    refine ⟨_, rfl, a, _, rfl, hS, for_it walk_enum (fun i σ H2 => ∃ (t : Int) (x y : Option V), σ = [some (.ref a), some (.int t), x, y] ∧ Same H H2) ⟨17, none, none, rfl, Same.refl H⟩ (fun i σ H2 _ ⟨_, _, _, _, s2⟩ => s2.seq hS) ?_ ?_⟩
    · rintro i v σ H2 H3 hi ⟨t, x, y, rfl, s2⟩ ⟨T, u, z, rfl, nT, rfl, e1, e2⟩
      obtain ⟨n, hn, rfl⟩ := int_at e2
      cases Option.some.inj e1
      have hi63 : i < 63 := by
        rw [List.length_map] at hi
        omega
      have s3 : Same H (upd H2 T (.tup [V.int (i : Nat), V.int n])) := fun b o e => by
        rw [upd_ne (ne_of_none (s2 b o e) nT)]
        exact s2 b o e
      refine ⟨T, _, rfl, SqT.of upd_same, rfl, _, _, rfl, _, _, rfl, rfl, ?_⟩
      refine ⟨_, rfl, _, _, rfl, rfl, .inr ⟨by decide, by decide⟩, _, rfl, .inl ⟨_, rfl, _, rfl, _, _, rfl, rfl, .inl ⟨by decide, by decide⟩, _, _, rfl, rfl, _, _, rfl, rfl, .inr ⟨by omega, by omega⟩, _, _, rfl, rfl, .inl ⟨_, rfl, _, _, rfl, rfl, (by show (0 : Int) < _; decide), ?_⟩⟩⟩
      exact ⟨_, _, _, rfl, s3⟩
    · rintro σ H2 ⟨t, x, y, rfl, s2⟩
      refine ⟨_, rfl, a, rfl, ⟨_, s2.seq hS⟩, fun D hD => ?_⟩
      refine lc_list (K := K) (a := a) (xs := ns.map V.int) (fun i H3 => ∃ cs : List Int, H3 D = some (.lst (cs.map V.int)) ∧ cs.length = i ∧ Same H2 H3) ⟨[], upd_same, rfl, fun b o e => by rw [upd_ne (ne_of_none e hD)]; exact e⟩ (fun i H3 _ ⟨_, _, _, s3⟩ => s3.seq (s2.seq hS)) ?_ ?_
      · rintro i v H3 hi ⟨cs, hc, hl, s3⟩
        obtain ⟨n, hn, rfl⟩ := int_at hi
        have hi63 : i < 63 := by
          have q := (List.getElem?_eq_some_iff.mp hn).1
          omega
        refine ⟨rfl, _, rfl, .inl ⟨_, rfl, _, rfl, cs.map V.int, hc, small1000 (by rw [List.length_map]; omega), cs ++ [if n < 0 then -n else n], ?_, by rw [List.length_append, hl]; rfl, ?_⟩⟩
        · rw [List.map_append]
          exact upd_same
        · intro b o e
          rw [upd_ne (ne_of_none e hD)]
          exact s3 b o e
      · rintro H3 ⟨cs, hc, hl, s3⟩
        refine ⟨_, rfl, (by show 4 ≤ sizeLine; decide), fun p hp => ?_⟩
        refine k p _ ((s2.trans s3).free hp) ⟨D, cs, 0, 0, t, upd_same, ?_, Int.le_refl 0⟩ fun b o e => ?_
        · rw [upd_ne (ne_of_none hc hp)]
          exact hc
        · have e2 := s3 b o (s2 b o e)
          rw [upd_ne (ne_of_none e2 hp)]
          exact e2
/-! ### _law_draw -/
def spDraw : Sp := fun vs H Q _ => ∃ (p : Addr) (m : Int), vs = [.ref p, .int m] ∧ HandAt H p ∧ (0 < m ∧ m.natAbs.log2 < 9000) ∧ ∀ (r : Int) H', 0 ≤ r → r < m → HandAt H' p → But p H H' → Q (.int r) H'
abbrev s_draw : Stmt := top 50
abbrev N_draw : List Str := ["_law_hand_here", "_law_many", "_law_cell", "_law_rest"]
theorem sc_draw : FnScope N_draw ["_law_hand_here", "_law_many"] (defScope s_draw) := ⟨rfl, rfl, rfl, by decide +kernel, rfl, by decide +kernel, by decide +kernel⟩
theorem atI_of {α : Type} {xs : List α} {i : Int} (h0 : 0 ≤ i) (h1 : i < xs.length) : ∃ v, xs[i.toNat]? = some v ∧ atI xs i = some v := by
  have e : xs[i.toNat]? = some (xs[i.toNat]'(by omega)) := List.getElem?_eq_getElem _
  have e2 : ((i.toNat : Nat) : Int) = i := by omega
  refine ⟨_, e, ?_⟩
  have q := atI_nat e
  rw [e2] at q
  exact q
theorem But.upd {p : Addr} {H H' : Hp} {o : HO} (h : But p H H') : But p H (upd H' p o) := fun b u hb e => by
  rw [upd_ne hb]
  exact h b u hb e
theorem But.refl (p : Addr) (H : Hp) : But p H H := fun _ _ _ e => e
theorem kp_draw (F : At K mg "_law_draw" s_draw) (GM : Keeps CX0 P w K mg base "_law_mix" 1 ["_law_number", "_law_turn"] spMix) (nI : mg "int" = none) (nL : mg "len" = none) : Keeps CX0 P w K mg base "_law_draw" 2 ["_law_hand_here", "_law_many"] spDraw := by
  refine keeps_of F sc_draw (fun _ _ _ _ _ _ us hl => match us, hl with | [_, _], _ => rfl) (fun vs H Q E h => ?_) (fun f cdv A outer s H vs Q E hr h => ?_)
  · obtain ⟨p, m, rfl, _⟩ := h
    rfl
  · obtain ⟨p, m, rfl, ⟨c, cs, i, rest, tot, hp, hc, hi⟩, ⟨hm, hm2⟩, k⟩ := h
    have cp : c ≠ p := ne_of hc hp (by
      intro z
      cases cs with
      | nil => cases z
      | cons y ys => cases z)
    -- what stands behind the first if
    obtain ⟨tl, dtl, tail⟩ : ∃ tl, PSs (cxOf CX0 P w K mg base N_draw "_law_draw" (defScope s_draw) f cdv A outer s H E).nox ((defBody s_draw).drop 1) tl ∧ ∀ (H1 : Hp) (i1 r1 : Int) (x : Option V), 0 ≤ i1 → H1 p = some (.lst [.ref c, .int i1, .int r1, .int tot]) → H1 c = some (.lst (cs.map V.int)) → But p H H1 →
        tl { nx := fun _ H' => Q .non H', rt := Q } [some (V.ref p), some (V.int m), x, none] H1 := by
      refine ⟨_, (pss_cons (ps_if (pt_cmpR op_gt (pe_ix ix_list (pv 0) pe_int (fun _ _ => rfl)) pe_int (nomark _)) (pss_cons (ps_set (i := 3) sc_draw.nd rfl (by walk_at "lv") (pe_ix ix_list (pv 0) pe_int (fun _ _ => rfl)))
        (pss_cons (ps_asg (pe_op op_fdivW (pv 3) (pv 1)) (pg_sub (pv 0) pe_int set_list))
        (pss_one (ps_ret (pe_op op_mod (pe_callTy call_int1 (by rfl) nI boot_int (pa_cons (pv 3) pa_nil)) (pv 1)))))) pss_nil)
        (pss_cons (ps_asg (pe_op op_mod (pe_callTy call_int1 (by rfl) nI boot_int (pa_cons (pe_op op_add (pe_ix ix_list (pv 0) pe_int (fun _ _ => rfl)) pe_int) pa_nil)) pe_int) (pg_sub (pv 0) pe_int set_list))
        (pss_one (ps_ret (pe_op op_mod (pe_callTy call_int1 (by rfl) nI boot_int (pa_cons (pe_k GM hr (by rfl) pass0 (pa_cons (pe_ix ix_list (pv 0) pe_int (fun _ _ => rfl)) (pa_cons (pe_ix ix_list (pv 0) pe_int (fun _ _ => rfl)) pa_nil))) pa_nil)) (pv 1)))))), ?_⟩
      intro H1 i1 r1 x h0 h1 h2 b1
      refine ⟨_, rfl, p, _, _, _, rfl, rfl, SqL.of h1, rfl, _, _, rfl, rfl, _, rfl, ?_⟩
      refine ite2 (fun _ => ?_) (fun _ => ?_)
      · refine ⟨_, rfl, p, _, _, _, rfl, rfl, SqL.of h1, rfl, _, rfl, _, rfl, _, _, rfl, rfl, ⟨hm, hm2⟩, _, rfl, p, _, _, 2, rfl, rfl, h1, rfl, ?_⟩
        refine ⟨_, rfl, .inl ⟨_, rfl, _, rfl, _, _, rfl, rfl, hm, ?_⟩⟩
        exact k _ _ (Int.emod_nonneg _ (by omega)) (Int.emod_lt_of_pos _ hm) ⟨c, cs, i1, _, _, upd_same, by rw [upd_ne cp]; exact h2, h0⟩ b1.upd
      · refine ⟨_, rfl, p, _, _, _, rfl, rfl, SqL.of h1, rfl, _, _, rfl, rfl, .inl ⟨_, rfl, _, _, rfl, rfl, (by show (0 : Int) < _; decide), _, rfl, p, _, _, 3, rfl, rfl, h1, rfl, ?_⟩⟩
        refine ⟨_, rfl, p, _, _, _, rfl, rfl, SqL.of upd_same, rfl, _, rfl, p, _, _, _, rfl, rfl, SqL.of upd_same, rfl, _, _, rfl, fun r => .inl ⟨_, rfl, _, rfl, _, _, rfl, rfl, hm, ?_⟩⟩
        exact k _ _ (Int.emod_nonneg _ (by omega)) (Int.emod_lt_of_pos _ hm) ⟨c, cs, i1, _, _, upd_same, by rw [upd_ne cp]; exact h2, h0⟩ b1.upd
    refine ⟨_, pss_cons (ps_if (PW.pt (pw_and (pt_cmpR op_eq (pe_ix ix_list (pv 0) pe_int (fun _ _ => rfl)) pe_int (nomark _)) (pw_and1 (pt_cmpR op_lt (pe_ix ix_list (pv 0) pe_int (fun _ _ => rfl)) (pe_callB call_len_seq (by rfl) nL boot_len (pa_cons (pe_ix ix_list (pv 0) pe_int (fun _ _ => rfl)) pa_nil)) (nomark _))))) (pss_cons (ps_set (i := 2) sc_draw.nd rfl (by walk_at "lv") (pe_ix ix_list (pe_ix ix_list (pv 0) pe_int (fun _ _ => rfl)) (pe_ix ix_list (pv 0) pe_int (fun _ _ => rfl)) (fun _ _ => rfl)))
        (pss_cons (ps_asg (pe_op op_add (pe_ix ix_list (pv 0) pe_int (fun _ _ => rfl)) pe_int) (pg_sub (pv 0) pe_int set_list))
        (pss_cons (ps_if (pt_cmpR op_lt (pv 2) (pe_op op_pow pe_int pe_int) (nomark _)) (pss_one (ps_ret (pe_op op_mod (pe_callTy call_int1 (by rfl) nI boot_int (pa_cons (pe_k GM hr (by rfl) pass0 (pa_cons (pe_op op_mod (pe_callTy call_int1 (by rfl) nI boot_int (pa_cons (pv 2) pa_nil)) pe_int) (pa_cons (pe_ix ix_list (pv 0) pe_int (fun _ _ => rfl)) pa_nil))) pa_nil)) (pv 1)))) pss_nil)
        (pss_one (ps_asg (pv 2) (pg_sub (pv 0) pe_int set_list)))))) pss_nil) dtl, ?_⟩
    refine ⟨_, rfl, p, _, _, _, rfl, rfl, SqL.of hp, rfl, rfl, _, rfl, ?_⟩
    refine ite2 (fun _ => ?_) (fun _ => ?_)
    · refine ⟨_, rfl, p, _, _, _, rfl, rfl, SqL.of hp, rfl, _, rfl, p, _, _, _, rfl, rfl, SqL.of hp, rfl, c, _, rfl, .inl (SqL.of hc), _, _, rfl, rfl, _, rfl, ?_⟩
      refine ite2 (fun hlt => ?_) (fun _ => ?_)
      · have hlt := of_decide_eq_true hlt
        rw [List.length_map] at hlt
        obtain ⟨v, ev, eat⟩ := atI_of (xs := cs.map V.int) hi (by rw [List.length_map]; exact hlt)
        obtain ⟨z, _, rfl⟩ := int_at ev
        refine ⟨_, rfl, p, _, _, _, rfl, rfl, SqL.of hp, rfl, _, rfl, p, _, _, _, rfl, rfl, SqL.of hp, rfl, c, _, _, _, rfl, rfl, SqL.of hc, eat, ?_⟩
        refine ⟨_, rfl, p, _, _, _, rfl, rfl, SqL.of hp, rfl, _, _, rfl, rfl, _, rfl, p, _, _, 1, rfl, rfl, hp, rfl, ?_⟩
        refine ⟨_, rfl, _, _, rfl, rfl, ⟨by decide, by decide, by decide⟩, _, _, rfl, rfl, _, rfl, ?_⟩
        refine ite2 (fun _ => ?_) (fun _ => ?_)
        · refine ⟨_, rfl, .inl ⟨_, rfl, _, _, rfl, rfl, (by show (0 : Int) < _; decide), _, rfl, p, _, _, _, rfl, rfl, SqL.of upd_same, rfl, _, _, rfl, fun r => .inl ⟨_, rfl, _, rfl, _, _, rfl, rfl, hm, ?_⟩⟩⟩
          exact k _ _ (Int.emod_nonneg _ (by omega)) (Int.emod_lt_of_pos _ hm) ⟨c, cs, _, _, _, upd_same, by rw [upd_ne cp]; exact hc, by omega⟩ (But.refl p H).upd
        · refine ⟨_, rfl, _, rfl, p, _, _, 2, rfl, rfl, upd_same, rfl, ?_⟩
          exact tail _ (i + 1) z _ (by omega) upd_same (by rw [upd_ne cp, upd_ne cp]; exact hc) (But.refl p H).upd.upd
      · exact tail _ i rest _ hi hp hc (But.refl p H)
    · exact tail _ i rest _ hi hp hc (But.refl p H)
end
end My

namespace My
open PySem PySem.Spec PyProof.Rows L2
/-! ### facts of the error classes -/
/-- the class at C: its name, its row of bases -/
def clsB (K : PySem.W.Frag) (C : Addr) (nm : Str) (bm : List Value) : Bool := match K.lookup C with
  | some ⟨.type t, _, .cls cd, sl⟩ => decide (t = "type") && (match cd.mro, sl.toList with
    | .ref C' :: r, [_, _, _, _, some (.builtin n), _] => decide (C' = C) && (decide (n = "ValueError.__new__") && (!cd.hasDel && (cd.hasDict && (decide (cd.name = nm) && decide (r = bm)))))
    | _, _ => false)
  | _ => false
theorem and_ok {a b : Bool} (h : (a && b) = true) : a = true ∧ b = true := Bool.and_eq_true_iff.mp h
theorem clsB_ok {K : PySem.W.Frag} {C : Addr} {nm : Str} {bm : List Value} (h : clsB K C nm bm = true) :
    ∃ q N bs sn sub ab col dd k0 k1 k2 k3 k5, K.lookup C = some (excClassObj nm q C N bs bm true sn sub ab col dd k0 k1 k2 k3 k5 "ValueError.__new__") := by
  unfold clsB at h
  split at h
  · rename_i t dd cd sl lk
    obtain ⟨nm', bs, mro, ns, qn, hd, sn, sb, ab, col, del⟩ := cd
    obtain ⟨l⟩ := sl
    obtain ⟨ht, h⟩ := and_ok h
    have ht := of_decide_eq_true ht
    dsimp only at h
    split at h
    · rename_i C' r k0 k1 k2 k3 n k5
      obtain ⟨h1, h⟩ := and_ok h
      obtain ⟨h2, h⟩ := and_ok h
      obtain ⟨h3, h⟩ := and_ok h
      obtain ⟨h4, h⟩ := and_ok h
      obtain ⟨h5, h6⟩ := and_ok h
      have h1 := of_decide_eq_true h1
      have h2 := of_decide_eq_true h2
      have h3 : del = false := by simpa using h3
      have h4 : hd = true := h4
      have h5 := of_decide_eq_true h5
      have h6 := of_decide_eq_true h6
      rw [lk, ht, h1, h2, h3, h4, h5, h6]
      exact ⟨_, _, _, _, _, _, _, _, _, _, _, _, _, rfl⟩
    · cases h
  · cases h
/-- what is told of an error class x with the attributes fs; b: the class above it -/
structure ExF (K : PySem.W.Frag) (mg : Str → Option Value) (x b : Str) (fs : List Str) : Prop where
  g : mg x = some (.ref (He.ga K x))
  lk : ∃ q N bs sn sub ab col dd k0 k1 k2 k3 k5, K.lookup (He.ga K x) = some (excClassObj x q (He.ga K x) N bs (.ref (He.ga K b) :: He.veBase) true sn sub ab col dd k0 k1 k2 k3 k5 "ValueError.__new__")
  sa : PySem.W.findIn K (.ref (He.ga K x)) "__setattr__" = some (some (.builtin "object.__setattr__"))
  exC : PySem.W.subIn K (.ref (He.ga K x)) (.type "BaseException") = some true
  kC : PySem.W.keepIn K (.ref (He.ga K x)) = true
  ga : PySem.W.findIn K (.ref (He.ga K x)) "__getattribute__" = some (some (.builtin "BaseException.__getattribute__"))
  gg : PySem.W.findIn K (.ref (He.ga K x)) "__getattr__" = some none
  ca : PySem.W.findIn K (.ref (He.ga K x)) "__class__" = some (some (.builtin "object.__class__"))
  mo : PySem.W.mroIn K (He.ga K x) (.type "object") = some true
  no : ∀ f ∈ fs, PySem.W.findIn K (.ref (He.ga K x)) f = some none
  kB : PySem.W.kitOne K (.ref (He.ga K x)) (.ref (He.ga K b)) = some true
  kV : PySem.W.kitOne K (.ref (He.ga K x)) (.type "ValueError") = some true
  xm : PySem.W.exmOne K (.ref (He.ga K x)) (.ref (He.ga K b)) = some true
  new : fs = [] → PySem.W.excIn K (He.ga K x) He.veBase "ValueError.__new__" = true
  ini : fs ≠ [] → PySem.W.findIn K (.ref (He.ga K x)) "__init__" = some (some (.ref (He.ma K (He.ga K x) "__init__"))) ∧ PySem.W.typeIn K (.ref (He.ma K (He.ga K x) "__init__")) = some (.type "function")
def exB (K : PySem.W.Frag) (b : Str) (p : Str × List Str) : Bool :=
  (He.Fa.glo p.1).ok K && (clsB K (He.ga K p.1) p.1 (.ref (He.ga K b) :: He.veBase) && (decide (PySem.W.findIn K (.ref (He.ga K p.1)) "__setattr__" = some (some (.builtin "object.__setattr__"))) &&
  (decide (PySem.W.subIn K (.ref (He.ga K p.1)) (.type "BaseException") = some true) && (PySem.W.keepIn K (.ref (He.ga K p.1)) && (decide (PySem.W.findIn K (.ref (He.ga K p.1)) "__getattribute__" = some (some (.builtin "BaseException.__getattribute__"))) &&
  (decide (PySem.W.findIn K (.ref (He.ga K p.1)) "__getattr__" = some none) && (decide (PySem.W.findIn K (.ref (He.ga K p.1)) "__class__" = some (some (.builtin "object.__class__"))) && (decide (PySem.W.mroIn K (He.ga K p.1) (.type "object") = some true) &&
  ((p.2.all fun f => decide (PySem.W.findIn K (.ref (He.ga K p.1)) f = some none)) && (decide (PySem.W.kitOne K (.ref (He.ga K p.1)) (.ref (He.ga K b)) = some true) && (decide (PySem.W.kitOne K (.ref (He.ga K p.1)) (.type "ValueError") = some true) && (decide (PySem.W.exmOne K (.ref (He.ga K p.1)) (.ref (He.ga K b)) = some true) &&
  (match p.2 with
    | [] => PySem.W.excIn K (He.ga K p.1) He.veBase "ValueError.__new__"
    | _ => decide (PySem.W.findIn K (.ref (He.ga K p.1)) "__init__" = some (some (.ref (He.ma K (He.ga K p.1) "__init__")))) && decide (PySem.W.typeIn K (.ref (He.ma K (He.ga K p.1) "__init__")) = some (.type "function")))))))))))))))
theorem exB_ok {K : PySem.W.Frag} {h : Heap} {mg : Str → Option Value} (X : K.In h) (G : h.Ns mainGlobals mg) {x b : Str} {fs : List Str} (c : exB K b (x, fs) = true) : ExF K mg x b fs := by
  obtain ⟨c1, c⟩ := and_ok c
  obtain ⟨c2, c⟩ := and_ok c
  obtain ⟨c3, c⟩ := and_ok c
  obtain ⟨c4, c⟩ := and_ok c
  obtain ⟨c5, c⟩ := and_ok c
  obtain ⟨c6, c⟩ := and_ok c
  obtain ⟨c7, c⟩ := and_ok c
  obtain ⟨c8, c⟩ := and_ok c
  obtain ⟨c9, c⟩ := and_ok c
  obtain ⟨c10, c⟩ := and_ok c
  obtain ⟨c11, c⟩ := and_ok c
  obtain ⟨c12, c⟩ := and_ok c
  obtain ⟨c13, c⟩ := and_ok c
  refine ⟨He.glo_ok X G c1, clsB_ok c2, of_decide_eq_true c3, of_decide_eq_true c4, c5, of_decide_eq_true c6, of_decide_eq_true c7, of_decide_eq_true c8, of_decide_eq_true c9, fun f hf => of_decide_eq_true (List.all_eq_true.mp c10 f hf), of_decide_eq_true c11, of_decide_eq_true c12, of_decide_eq_true c13, fun e => ?_, fun e => ?_⟩
  · subst e
    exact c
  · cases fs with
    | nil => exact absurd rfl e
    | cons f r =>
      obtain ⟨d1, d2⟩ := and_ok c
      exact ⟨of_decide_eq_true d1, of_decide_eq_true d2⟩
section
variable {K : PySem.W.Frag} {mg : Str → Option Value} {x b : Str} {fs : List Str}
theorem ExF.ty (T : ExF K mg x b fs) : PySem.W.typeIn K (.ref (He.ga K x)) = some (.type "type") := by
  obtain ⟨q, N, bs, sn, sub, ab, col, dd, k0, k1, k2, k3, k5, lk⟩ := T.lk
  show ((K.lookup (He.ga K x)).map (·.cls)) = _
  rw [lk]
  rfl
theorem ExF.cl (T : ExF K mg x b fs) : (PySem.W.clsIn K (He.ga K x)).isSome = true := by
  obtain ⟨q, N, bs, sn, sub, ab, col, dd, k0, k1, k2, k3, k5, lk⟩ := T.lk
  unfold PySem.W.clsIn
  rw [lk]
  rfl
theorem ExF.dict (T : ExF K mg x b fs) : PySem.W.hasDictIn K (He.ga K x) = true := by
  obtain ⟨q, N, bs, sn, sub, ab, col, dd, k0, k1, k2, k3, k5, lk⟩ := T.lk
  unfold PySem.W.hasDictIn PySem.W.clsIn
  rw [lk]
  rfl
theorem ExF.ox (T : ExF K mg x b fs) : OexC K (He.ga K x) := by
  obtain ⟨q, N, bs, sn, sub, ab, col, dd, k0, k1, k2, k3, k5, lk⟩ := T.lk
  exact ⟨⟨x, q, N, bs, _, sn, sub, ab, col, dd, k0, k1, k2, k3, k5, lk, (show PySem.HandSPX.refsVE He.veBase = true by decide +kernel)⟩, T.sa, T.exC, T.ty, T.kC⟩
/-- two of them: is the one the other -/
theorem kit_two {y : Str} {gs : List Str} (T : ExF K mg x b fs) (U : ExF K mg y b gs) (hb : y ≠ b) (hB : ∃ q N bs bm sn sub ab col dd k0 k1 k2 k3 k5 nid, K.lookup (He.ga K b) = some (excClassObj b q (He.ga K b) N bs bm true sn sub ab col dd k0 k1 k2 k3 k5 nid)) :
    PySem.W.kitOne K (.ref (He.ga K x)) (.ref (He.ga K y)) = some (decide (x = y)) := by
  by_cases e : x = y
  · subst e
    rw [decide_eq_true rfl]
    exact if_pos (by simp)
  · rw [decide_eq_false e]
    obtain ⟨q, N, bs, sn, sub, ab, col, dd, k0, k1, k2, k3, k5, lx⟩ := T.lk
    obtain ⟨q', N', bs', sn', sub', ab', col', dd', k0', k1', k2', k3', k5', ly⟩ := U.lk
    obtain ⟨q2, N2, bs2, bm2, sn2, sub2, ab2, col2, dd2, m0, m1, m2, m3, m5, nid, lb⟩ := hB
    have n1 : He.ga K x ≠ He.ga K y := fun z => by
      rw [z, ly] at lx
      have z1 := Option.some.inj lx
      simp only [excClassObj, Obj.mk.injEq, Data.cls.injEq, ClassData.mk.injEq] at z1
      exact e z1.2.2.1.1.symm
    have n2 : He.ga K b ≠ He.ga K y := fun z => by
      rw [z, ly] at lb
      have z1 := Option.some.inj lb
      simp only [excClassObj, Obj.mk.injEq, Data.cls.injEq, ClassData.mk.injEq] at z1
      exact hb z1.2.2.1.1
    have n3 : ¬ ((Value.ref (He.ga K x) == Value.ref (He.ga K y)) = true) := fun z => n1 (Value.ref.inj (beq_iff_eq.mp z))
    unfold PySem.W.kitOne
    rw [if_neg n3]
    show (if ((PySem.W.clsIn K (He.ga K y)).isSome && PySem.W.typeIn K (.ref (He.ga K y)) == some (.type "type")) = true then PySem.W.subIn K (.ref (He.ga K x)) (.ref (He.ga K y)) else none) = some false
    rw [if_pos (by rw [U.cl, U.ty]; rfl)]
    show PySem.W.mroIn K (He.ga K x) (.ref (He.ga K y)) = some false
    unfold PySem.W.mroIn PySem.W.clsIn
    rw [lx]
    have c1 : (Value.ref (He.ga K y) == Value.ref (He.ga K x)) = false := by
      rw [beq_eq_false_iff_ne]
      exact fun z => n1 (Value.ref.inj z).symm
    have c2 : (Value.ref (He.ga K y) == Value.ref (He.ga K b)) = false := by
      rw [beq_eq_false_iff_ne]
      exact fun z => n2 (Value.ref.inj z).symm
    simp [List.contains_cons, c1, c2, He.veBase]
    exact ⟨fun z => n1 z.symm, fun z => n2 z.symm⟩
end
end My

namespace My
open PySem PySem.Spec PyProof.Rows L2
/-! ### errors as values: made, asked for their class, read -/
section
variable {X : Cx} {e : Expr} {es : List Expr} {ta : TA} {te : TE} {p pos : Pos} {x b n : Str} {fs : List Str}
/-- X(), no __init__ of its own -/
theorem pe_exv0 (T : ExF X.K X.mg x b fs) (nf : fs = []) (hg : Gl X x) (dbg : (x == ("__debug__" : Str)) = false := by decide) :
    PE X (.Call (.Name x p) [] [] pos) (fun _ H Q => ∀ a, H a = none → Q (.ref a) (upd H a (exo a (He.ga X.K x) none))) := by
  refine ⟨fun pins s σ H Q I h => ?_⟩
  refine wpAny_Call_Name_kw (ld_glob I hg T.g ?_ dbg)
  refine PySem.W.callWith_K0 I.kIn T.kC ?_
  show wpAny _ _ (call (.ref (He.ga X.K x)) []) _ _ _
  obtain ⟨bm, N, nm, qn, bs, hdct, sn, sub, ab, col, dd, k0, k1, k2, k3, k5, mN, hC, hN, hni, TL⟩ := exc_obj I.kIn (T.new nf)
  refine wpAny_call_exc_subT PySem.F.excBase_ValueError TL hC hN hni (fun h' a hm => ?_) (by show 0 ≤ sizeLine; exact Nat.zero_le _)
  have hn : H a = none := I.hok.gone hm.new
  obtain ⟨tt, et, _, _⟩ := hm.there
  exact ⟨.ref a, _, I.laidN hm.keeps hm.new hn (exo_ok et), rfl, h a hn⟩
/-- the reading of X(e, ..) with an __init__ that keeps sp -/
def tExv (C : Addr) (sp : Sp) (ta : TA) : TE := fun σ H Q => ta σ H fun vs H1 => vs.length ≤ 1000 ∧ ∀ a, H1 a = none →
  sp (.ref a :: vs) (upd H1 a (exo a C none)) (fun v H2 => v = .non ∧ Q (.ref a) H2) fun _ _ _ => False
theorem pe_exv {CX : CXT} {k : Nat} {fI : Addr} {fd : FuncData} {ps : List Str} {sp : Sp} (T : ExF X.K X.mg x b fs) (nf : fs ≠ []) (ef : fI = He.ma X.K (He.ga X.K x) "__init__") (F1 : FnOk X.prog X.w X.K X.mg X.base CX k fI fd ps sp)
    (hr : Room (k + 1) X.A) (hb : Binds X.K fd ps []) (hx : Passes CX X (fun _ _ _ => False)) (hg : Gl X x) (ha : PA X (e :: es) ta)
    (dbg : (x == ("__debug__" : Str)) = false := by decide) (hst : starEach (e :: es) X.env = (false, eval e X.env) :: starEach es X.env := by rfl) (hpl : (backTo pos (starEach es X.env)).any (·.1) = false := by rfl) :
    PE X (.Call (.Name x p) (e :: es) [] pos) (tExv (He.ga X.K x) sp ta) := by
  subst ef
  refine ⟨fun pins s σ H Q I h => ?_⟩
  obtain ⟨iC, tI⟩ := T.ini nf
  obtain ⟨nm, q, N, bs, bm, sn, sub, ab, col, dd, k0, k1, k2, k3, k5, hC, hbm⟩ := T.ox.cls
  refine wpAny_Call_Name_kw (ld_glob I hg T.g ?_ dbg)
  refine PySem.W.callWith_K (h₀ := X.base) I.ok.mod.kin T.kC ?_ hst hpl
  refine thn (ha.run pos pins s σ H _ I h) fun us s1 hh => ?_
  obtain ⟨vs, H1, I1, r1, hz, q1⟩ := hh
  refine ⟨I1.kIn, ?_⟩
  show wpAny _ _ (call (.ref (He.ga X.K x)) us) _ _ _
  obtain ⟨hp, g, dr, tk, os⟩ := s1
  have hup : hp.objs.size ≤ hp.objs.size + 1 := Nat.le_succ _
  have hfr : H1 (hp.objs.size + 1) = none := I1.hok.fresh hup
  have hq := q1 _ hfr
  let h2 : Heap := (hp.push (PySem.W.kdv_tup us)).push (PySem.HandSPX.excO (He.ga X.K x) hp.objs.size)
  have kk : ∀ a o, hp.get? a = some o → h2.get? a = some o := fun a o z => Heap.get?_push_of_some _ (Heap.get?_push_of_some _ z)
  have hget : h2.get? (hp.objs.size + 1) = some (PySem.HandSPX.excO (He.ga X.K x) hp.objs.size) := by
    show ((hp.push (PySem.W.kdv_tup us)).push (PySem.HandSPX.excO (He.ga X.K x) hp.objs.size)).get? _ = _
    heap_get
  have I2 : Inv X pins σ (upd H1 (hp.objs.size + 1) (exo (hp.objs.size + 1) (He.ga X.K x) none)) ⟨h2, g, dr, tk, os⟩ := I1.laid (t' := tk) (h' := h2) kk hup (exo_ok hget)
  have rr : Vals (V.ref (hp.objs.size + 1) :: vs) (Value.ref (hp.objs.size + 1) :: us) := .cons rfl r1
  have hl : (Value.ref (hp.objs.size + 1) :: us).length = ps.length := by
    rw [← rr.length]
    exact F1.len _ _ _ _ hq
  have few : us.length ≤ sizeLine := by rw [← r1.length, sizeLine_eq]; omega
  have hbb := hb ⟨h2, g, dr, tk, os⟩ (Value.ref (hp.objs.size + 1) :: us) I2.kIn (by rw [List.append_nil]; exact hl)
  rw [List.append_nil] at hbb
  refine wpAny_call (PySem.HandSPX.call_own PySem.F.excBase_ValueError (fun Y => PySem.HandSPX.refsVE_contains Y bm hbm) (I1.kIn _ _ hC) (PySem.W.looks_findIn I1.kIn iC) (fun self => PySem.W.bind_fn I1.kIn self tI) few ?_)
  refine codeAny_mono (F1.run _ X.stack _ _ ⟨Value.ref (hp.objs.size + 1) :: us, []⟩ _ _ _ (fun _ _ _ => False) (hr.make (He.ga X.K x) us []) (I2.env0.make (He.ga X.K x) us []) hbb rr hq) fun r s' out => ?_
  cases r with
  | error er => exact hx pins σ _ _ er s' I2 out
  | ok fl =>
    cases fl with
    | ret u =>
      obtain ⟨v, H2, os2, bare2, un2, hok2, rv, ev, q2⟩ := out
      subst ev
      exact ⟨rv, .ref (hp.objs.size + 1), H2, I2.call' (ch := []) os2 un2 hok2 bare2 (fun b z => absurd z (by simp)), rfl, q2⟩
    | next => exact out.elim
    | brk => exact out.elim
    | cont => exact out.elim
/-- what the state knows of the error at a: tracked, or held by the suite -/
def ExKnown (H : Hp) (pn : List (Addr × Obj)) (C a : Addr) : Prop := (∃ d, H a = some (exo a C d) ∧ ∀ dd, d = some dd → ∃ fs, H dd = some (exd dd fs)) ∨
  ∃ oe, (a, oe) ∈ pn ∧ oe.cls = .ref C ∧ (∃ vs, oe.data = .fields vs) ∧ ∀ dd, oe.dict = some dd → ∃ fs, H dd = some (.xd fs)
/-- isinstance(e, c) -/
def rIsx (K : PySem.W.Frag) (mg : Str → Option Value) (pn : List (Addr × Obj)) : List V → Hp → VK → Prop := fun xs H Q => ∃ (a : Addr) (c : V) (cv : Value) (y z : Str) (gs : List Str) (r : Bool), xs = [.ref a, c] ∧ (∀ u, RelV c u → u = cv) ∧ ExF K mg y z gs ∧
  ExKnown H pn (He.ga K y) a ∧ PySem.W.kitOne K (.ref (He.ga K y)) cv = some r ∧ Q (.bl r) H
theorem call_isx (hn : PySem.W.specialIn X.K (.builtin "object.__class__") "__get__" = some (some (.builtin "getset_descriptor.__get__"))) (ht : PySem.W.takesIn X.K (.builtin "object.__class__") = some true) :
    CallR X (.builtin "isinstance") (rIsx X.K X.mg X.pn) := by
  intro pns s σ H xs us Q I r h
  obtain ⟨a, c, cv, y, z, gs, b, rfl, hcv, T, kn, e, q⟩ := h
  cases r with
  | cons rx rr =>
    cases rr with
    | cons rt rr =>
      cases rr
      cases rx
      have ec := hcv _ rt
      subst ec
      obtain ⟨oe, od, J⟩ : ∃ oe od, PySem.W.InstAt s.heap a oe (He.ga X.K y) od := by
        rcases kn with ⟨d, ea, hd⟩ | ⟨oe, hp, h1, ⟨vs, h2⟩, h3⟩
        · obtain ⟨t1, ho⟩ := exo_at I.hok ea
          cases d with
          | none => exact ⟨_, none, ⟨ho, rfl, rfl, trivial⟩⟩
          | some dd =>
            obtain ⟨f2, ed⟩ := hd dd rfl
            obtain ⟨mA, hns, _⟩ := exd_at I.hok ed
            obtain ⟨o2, ho2, _⟩ := lookIn_ns hns
            exact ⟨_, some o2, ⟨ho, rfl, rfl, ho2⟩⟩
        · obtain ⟨hget, _⟩ := I.pin (a, oe) (List.mem_append.mpr (.inl hp))
          obtain ⟨oc, dct, oda, osl⟩ := oe
          dsimp only at h1 h2 h3
          subst h1 h2
          cases dct with
          | none => exact ⟨_, none, ⟨hget, rfl, rfl, trivial⟩⟩
          | some dd =>
            obtain ⟨f2, ed⟩ := h3 dd rfl
            obtain ⟨mA, hns, _⟩ := (show ObjOk X.prog X.w H s.heap dd (.xd f2) from I.hok dd _ ed)
            obtain ⟨o2, ho2, _⟩ := lookIn_ns hns
            exact ⟨_, some o2, ⟨hget, rfl, rfl, ho2⟩⟩
      exact PySem.W.kia_one (PySem.W.kitx_exc T.cl T.ga T.gg T.exC T.ca hn ht T.mo) I.kIn J e (fun z => nomatch z) fun tk => ⟨.bl b, H, I.tok tk, rfl, q⟩
/-- e.f of a tracked error -/
def tXat (K : PySem.W.Frag) (mg : Str → Option Value) (f : Str) (te : TE) : TE := fun σ H Q => te σ H fun v H1 => ∃ (a d : Addr) (y z : Str) (gs : List Str) (fs : List (Str × V)) (u : V), v = .ref a ∧ ExF K mg y z gs ∧ f ∈ gs ∧
  H1 a = some (exo a (He.ga K y) (some d)) ∧ H1 d = some (exd d fs) ∧ fs.lookup f = some u ∧ Q u H1
theorem pe_xat (he : PE X e te) (hb : attributeBase e n X.env (eval e X.env) = eval e X.env := by rfl) : PE X (.Attribute e n pos) (tXat X.K X.mg n te) := by
  refine ⟨fun pins s σ H Q I h => ?_⟩
  refine attr_of hb (thn (he.run pins s σ H _ I h) fun u s1 hh => ?_)
  obtain ⟨v, H1, I1, rv, a, d, y, z, gs, fs, w, rfl, T, hf, ea, ed, l, q⟩ := hh
  cases rv
  obtain ⟨t1, ho⟩ := exo_at I1.hok ea
  obtain ⟨mA, hns, hr⟩ := exd_at I1.hok ed
  obtain ⟨od, hod, hl⟩ := lookIn_ns hns
  obtain ⟨uw, hu, ru⟩ := RelO.some_of (v := w) (o := mA n) (by rw [← l]; exact hr n)
  have J : PySem.W.InstAt s1.heap a _ (He.ga X.K y) (some od) := ⟨ho, rfl, rfl, hod⟩
  exact HandSPX.exc_get I1.kIn J T.ga T.gg T.exC (PySem.W.findObj_own T.dict (T.no n hf) rfl (by rw [hl, hu])) (handed_of ru) ⟨w, H1, I1.tok _, ru, q⟩
end
end My

namespace My
open PySem PySem.Spec PyProof.Rows L2
/-! ### the __init__ of an error -/
def spIni (C : Addr) (fs : List Str) : Sp := fun vs H Q _ => ∃ (a : Addr) (ys : List V), vs = .ref a :: ys ∧ ys.length = fs.length ∧ H a = some (exo a C none) ∧
  ∀ d H', H d = none → d ≠ a → H' a = some (exo a C (some d)) → H' d = some (exd d (fs.zip ys).reverse) → (∀ b o, b ≠ a → H b = some o → H' b = some o) → Q .non H'
/-- the def __init__ of the class x, as it stands -/
def AtI (K : PySem.W.Frag) (x q : Str) (st : Stmt) : Prop := ∃ fd, FunD K "__init__" q (defArgs st) (defBody st) (defScope st) [] [] (He.ma K (He.ga K x) "__init__") fd
def KeepsI (P : Program) (w : World) (K : PySem.W.Frag) (mg : Str → Option Value) (base : Heap) (x : Str) (fs : List Str) : Prop :=
  ∃ fd, FnOk P w K mg base CX0 1 (He.ma K (He.ga K x) "__init__") fd ("self" :: fs) (spIni (He.ga K x) fs) ∧ Binds K fd ("self" :: fs) []
section
variable {P : Program} {w : World} {K : PySem.W.Frag} {mg : Str → Option Value} {base : Heap}
abbrev bindsI (st : Stmt) (q : Str) (ps : List Str) : Prop := ∀ (kV doc pm : Value) (an : Option Addr) (cdv ct : Value) (us : List Value), us.length = ps.length → bindArgs (PySem.W.fnOf "__init__" q (defArgs st) (defBody st) (defScope st) .none kV doc pm an cdv ct) ⟨us, []⟩ = pure (ps.zip us)
theorem ini_of {x q : Str} {st : Stmt} {fs : List Str} (F : AtI K x q st) (S : FnScope ("self" :: fs) ("self" :: fs) (defScope st)) (hb : bindsI st q ("self" :: fs))
    (hbody : ∀ (fd : FuncData) (cdv : Value) (A : Around) (outer : List Env) (s : Shared) (H : Hp) (vs : List V) (Q : VK) (E : XK), spIni (He.ga K x) fs vs H Q E →
      ∃ t, PSs (cxOf CX0 P w K mg base ("self" :: fs) q (defScope st) (He.ma K (He.ga K x) "__init__") cdv A outer s H E).nox (defBody st) t ∧ t { nx := fun _ H' => Q .non H', rt := Q } (start ("self" :: fs) vs) H) :
    KeepsI P w K mg base x fs := by
  obtain ⟨fd, F⟩ := F
  refine ⟨fd, F.ok S (fun vs H Q E h => ?_) (fun cdv A outer s H vs Q E hr h => ?_), F.bindsN hb⟩
  · obtain ⟨a, ys, rfl, hl, _⟩ := h
    simp only [List.length_cons, hl]
  · obtain ⟨t, h1, h2⟩ := hbody fd cdv A outer s H vs Q E h
    exact ⟨t, h1.nox, h2⟩
theorem one_of {ys : List V} (h : ys.length = 1) : ∃ y, ys = [y] := match ys, h with | [y], _ => ⟨y, rfl⟩
theorem two_of {ys : List V} (h : ys.length = 2) : ∃ y z, ys = [y, z] := match ys, h with | [y, z], _ => ⟨y, z, rfl⟩
theorem three_of {ys : List V} (h : ys.length = 3) : ∃ y z u, ys = [y, z, u] := match ys, h with | [y, z, u], _ => ⟨y, z, u, rfl⟩
theorem ki_BadLot (F : AtI K "BadLot" "BadLot.__init__" (inClass (top 2) 0)) (T : ExF K mg "BadLot" "BookError" ["what"]) : KeepsI P w K mg base "BadLot" ["what"] := by
  refine ini_of F ⟨rfl, rfl, rfl, by decide +kernel, rfl, by decide +kernel, by decide +kernel⟩ (fun _ _ _ _ _ _ us hl => match us, hl with | [_, _], _ => rfl) (fun fd cdv A outer s H vs Q E h => ?_)
  obtain ⟨a, ys, rfl, hl, ha, k⟩ := h
  obtain ⟨y, rfl⟩ := one_of hl
  refine ⟨_, pss_one (ps_ost (pv 0) (pv 1)), ?_⟩
  refine ⟨_, rfl, _, rfl, a, _, rfl, T.ox, T.no _ (by decide), .inl ⟨ha, fun d hd hne => ?_⟩⟩
  refine k d _ hd hne upd_same ?_ fun b o hb e => ?_
  · rw [upd_ne hne, upd_same]
    rfl
  · rw [upd_ne hb, upd_ne (ne_of_none e hd)]
    exact e
theorem ki_TooLong (F : AtI K "TooLong" "TooLong.__init__" (inClass (top 3) 0)) (T : ExF K mg "TooLong" "BookError" ["most"]) : KeepsI P w K mg base "TooLong" ["most"] := by
  refine ini_of F ⟨rfl, rfl, rfl, by decide +kernel, rfl, by decide +kernel, by decide +kernel⟩ (fun _ _ _ _ _ _ us hl => match us, hl with | [_, _], _ => rfl) (fun fd cdv A outer s H vs Q E h => ?_)
  obtain ⟨a, ys, rfl, hl, ha, k⟩ := h
  obtain ⟨y, rfl⟩ := one_of hl
  refine ⟨_, pss_one (ps_ost (pv 0) (pv 1)), ?_⟩
  refine ⟨_, rfl, _, rfl, a, _, rfl, T.ox, T.no _ (by decide), .inl ⟨ha, fun d hd hne => ?_⟩⟩
  refine k d _ hd hne upd_same ?_ fun b o hb e => ?_
  · rw [upd_ne hne, upd_same]
    rfl
  · rw [upd_ne hb, upd_ne (ne_of_none e hd)]
    exact e
theorem ki_BadText (F : AtI K "BadText" "BadText.__init__" (inClass (top 4) 0)) (T : ExF K mg "BadText" "BookError" ["line", "what"]) : KeepsI P w K mg base "BadText" ["line", "what"] := by
  refine ini_of F ⟨rfl, rfl, rfl, by decide +kernel, rfl, by decide +kernel, by decide +kernel⟩ (fun _ _ _ _ _ _ us hl => match us, hl with | [_, _, _], _ => rfl) (fun fd cdv A outer s H vs Q E h => ?_)
  obtain ⟨a, ys, rfl, hl, ha, k⟩ := h
  obtain ⟨y, z, rfl⟩ := two_of hl
  refine ⟨_, pss_cons (ps_ost (pv 0) (pv 1)) (pss_one (ps_ost (pv 0) (pv 2))), ?_⟩
  refine ⟨_, rfl, _, rfl, a, _, rfl, T.ox, T.no _ (by decide), .inl ⟨ha, fun d hd hne => ?_⟩⟩
  refine ⟨_, rfl, _, rfl, a, _, rfl, T.ox, T.no _ (by decide), .inr ⟨d, _, upd_same, (by rw [upd_ne hne, upd_same]), (by show 1 ≤ 900; decide), ?_⟩⟩
  refine k d _ hd hne ?_ upd_same fun b o hb e => ?_
  · rw [upd_ne hne.symm, upd_same]
  · rw [upd_ne (ne_of_none e hd), upd_ne hb, upd_ne (ne_of_none e hd)]
    exact e
theorem ki_BadMachine (F : AtI K "BadMachine" "BadMachine.__init__" (inClass (top 8) 0)) (T : ExF K mg "BadMachine" "BookError" ["what", "at"]) : KeepsI P w K mg base "BadMachine" ["what", "at"] := by
  refine ini_of F ⟨rfl, rfl, rfl, by decide +kernel, rfl, by decide +kernel, by decide +kernel⟩ (fun _ _ _ _ _ _ us hl => match us, hl with | [_, _, _], _ => rfl) (fun fd cdv A outer s H vs Q E h => ?_)
  obtain ⟨a, ys, rfl, hl, ha, k⟩ := h
  obtain ⟨y, z, rfl⟩ := two_of hl
  refine ⟨_, pss_cons (ps_ost (pv 0) (pv 1)) (pss_one (ps_ost (pv 0) (pv 2))), ?_⟩
  refine ⟨_, rfl, _, rfl, a, _, rfl, T.ox, T.no _ (by decide), .inl ⟨ha, fun d hd hne => ?_⟩⟩
  refine ⟨_, rfl, _, rfl, a, _, rfl, T.ox, T.no _ (by decide), .inr ⟨d, _, upd_same, (by rw [upd_ne hne, upd_same]), (by show 1 ≤ 900; decide), ?_⟩⟩
  refine k d _ hd hne ?_ upd_same fun b o hb e => ?_
  · rw [upd_ne hne.symm, upd_same]
  · rw [upd_ne (ne_of_none e hd), upd_ne hb, upd_ne (ne_of_none e hd)]
    exact e
theorem ki_BadBook (F : AtI K "BadBook" "BadBook.__init__" (inClass (top 10) 0)) (T : ExF K mg "BadBook" "BookError" ["what", "at"]) : KeepsI P w K mg base "BadBook" ["what", "at"] := by
  refine ini_of F ⟨rfl, rfl, rfl, by decide +kernel, rfl, by decide +kernel, by decide +kernel⟩ (fun _ _ _ _ _ _ us hl => match us, hl with | [_, _, _], _ => rfl) (fun fd cdv A outer s H vs Q E h => ?_)
  obtain ⟨a, ys, rfl, hl, ha, k⟩ := h
  obtain ⟨y, z, rfl⟩ := two_of hl
  refine ⟨_, pss_cons (ps_ost (pv 0) (pv 1)) (pss_one (ps_ost (pv 0) (pv 2))), ?_⟩
  refine ⟨_, rfl, _, rfl, a, _, rfl, T.ox, T.no _ (by decide), .inl ⟨ha, fun d hd hne => ?_⟩⟩
  refine ⟨_, rfl, _, rfl, a, _, rfl, T.ox, T.no _ (by decide), .inr ⟨d, _, upd_same, (by rw [upd_ne hne, upd_same]), (by show 1 ≤ 900; decide), ?_⟩⟩
  refine k d _ hd hne ?_ upd_same fun b o hb e => ?_
  · rw [upd_ne hne.symm, upd_same]
  · rw [upd_ne (ne_of_none e hd), upd_ne hb, upd_ne (ne_of_none e hd)]
    exact e
theorem ki_BadRaise (F : AtI K "BadRaise" "BadRaise.__init__" (inClass (top 14) 0)) (T : ExF K mg "BadRaise" "BookError" ["at"]) : KeepsI P w K mg base "BadRaise" ["at"] := by
  refine ini_of F ⟨rfl, rfl, rfl, by decide +kernel, rfl, by decide +kernel, by decide +kernel⟩ (fun _ _ _ _ _ _ us hl => match us, hl with | [_, _], _ => rfl) (fun fd cdv A outer s H vs Q E h => ?_)
  obtain ⟨a, ys, rfl, hl, ha, k⟩ := h
  obtain ⟨y, rfl⟩ := one_of hl
  refine ⟨_, pss_one (ps_ost (pv 0) (pv 1)), ?_⟩
  refine ⟨_, rfl, _, rfl, a, _, rfl, T.ox, T.no _ (by decide), .inl ⟨ha, fun d hd hne => ?_⟩⟩
  refine k d _ hd hne upd_same ?_ fun b o hb e => ?_
  · rw [upd_ne hne, upd_same]
    rfl
  · rw [upd_ne hb, upd_ne (ne_of_none e hd)]
    exact e
theorem ki_BadProgram (F : AtI K "BadProgram" "BadProgram.__init__" (inClass (top 16) 0)) (T : ExF K mg "BadProgram" "BookError" ["name", "place", "what"]) : KeepsI P w K mg base "BadProgram" ["name", "place", "what"] := by
  refine ini_of F ⟨rfl, rfl, rfl, by decide +kernel, rfl, by decide +kernel, by decide +kernel⟩ (fun _ _ _ _ _ _ us hl => match us, hl with | [_, _, _, _], _ => rfl) (fun fd cdv A outer s H vs Q E h => ?_)
  obtain ⟨a, ys, rfl, hl, ha, k⟩ := h
  obtain ⟨y, z, u, rfl⟩ := three_of hl
  refine ⟨_, pss_cons (ps_ost (pv 0) (pv 1)) (pss_cons (ps_ost (pv 0) (pv 2)) (pss_one (ps_ost (pv 0) (pv 3)))), ?_⟩
  refine ⟨_, rfl, _, rfl, a, _, rfl, T.ox, T.no _ (by decide), .inl ⟨ha, fun d hd hne => ?_⟩⟩
  refine ⟨_, rfl, _, rfl, a, _, rfl, T.ox, T.no _ (by decide), .inr ⟨d, _, upd_same, (by rw [upd_ne hne, upd_same]), (by show 1 ≤ 900; decide), ?_⟩⟩
  refine ⟨_, rfl, _, rfl, a, _, rfl, T.ox, T.no _ (by decide), .inr ⟨d, _, (by rw [upd_ne hne.symm, upd_same]), upd_same, (by show 2 ≤ 900; decide), ?_⟩⟩
  refine k d _ hd hne ?_ upd_same fun b o hb e => ?_
  · rw [upd_ne hne.symm, upd_ne hne.symm, upd_same]
  · rw [upd_ne (ne_of_none e hd), upd_ne (ne_of_none e hd), upd_ne hb, upd_ne (ne_of_none e hd)]
    exact e
theorem ki_NoProcedure (F : AtI K "NoProcedure" "NoProcedure.__init__" (inClass (top 17) 0)) (T : ExF K mg "NoProcedure" "BookError" ["name"]) : KeepsI P w K mg base "NoProcedure" ["name"] := by
  refine ini_of F ⟨rfl, rfl, rfl, by decide +kernel, rfl, by decide +kernel, by decide +kernel⟩ (fun _ _ _ _ _ _ us hl => match us, hl with | [_, _], _ => rfl) (fun fd cdv A outer s H vs Q E h => ?_)
  obtain ⟨a, ys, rfl, hl, ha, k⟩ := h
  obtain ⟨y, rfl⟩ := one_of hl
  refine ⟨_, pss_one (ps_ost (pv 0) (pv 1)), ?_⟩
  refine ⟨_, rfl, _, rfl, a, _, rfl, T.ox, T.no _ (by decide), .inl ⟨ha, fun d hd hne => ?_⟩⟩
  refine k d _ hd hne upd_same ?_ fun b o hb e => ?_
  · rw [upd_ne hne, upd_same]
    rfl
  · rw [upd_ne hb, upd_ne (ne_of_none e hd)]
    exact e
theorem ki_BadChoices (F : AtI K "BadChoices" "BadChoices.__init__" (inClass (top 19) 0)) (T : ExF K mg "BadChoices" "BookError" ["at"]) : KeepsI P w K mg base "BadChoices" ["at"] := by
  refine ini_of F ⟨rfl, rfl, rfl, by decide +kernel, rfl, by decide +kernel, by decide +kernel⟩ (fun _ _ _ _ _ _ us hl => match us, hl with | [_, _], _ => rfl) (fun fd cdv A outer s H vs Q E h => ?_)
  obtain ⟨a, ys, rfl, hl, ha, k⟩ := h
  obtain ⟨y, rfl⟩ := one_of hl
  refine ⟨_, pss_one (ps_ost (pv 0) (pv 1)), ?_⟩
  refine ⟨_, rfl, _, rfl, a, _, rfl, T.ox, T.no _ (by decide), .inl ⟨ha, fun d hd hne => ?_⟩⟩
  refine k d _ hd hne upd_same ?_ fun b o hb e => ?_
  · rw [upd_ne hne, upd_same]
    rfl
  · rw [upd_ne hb, upd_ne (ne_of_none e hd)]
    exact e
theorem ki_TooMany (F : AtI K "TooMany" "TooMany.__init__" (inClass (top 22) 0)) (T : ExF K mg "TooMany" "BookError" ["most"]) : KeepsI P w K mg base "TooMany" ["most"] := by
  refine ini_of F ⟨rfl, rfl, rfl, by decide +kernel, rfl, by decide +kernel, by decide +kernel⟩ (fun _ _ _ _ _ _ us hl => match us, hl with | [_, _], _ => rfl) (fun fd cdv A outer s H vs Q E h => ?_)
  obtain ⟨a, ys, rfl, hl, ha, k⟩ := h
  obtain ⟨y, rfl⟩ := one_of hl
  refine ⟨_, pss_one (ps_ost (pv 0) (pv 1)), ?_⟩
  refine ⟨_, rfl, _, rfl, a, _, rfl, T.ox, T.no _ (by decide), .inl ⟨ha, fun d hd hne => ?_⟩⟩
  refine k d _ hd hne upd_same ?_ fun b o hb e => ?_
  · rw [upd_ne hne, upd_same]
    rfl
  · rw [upd_ne hb, upd_ne (ne_of_none e hd)]
    exact e
theorem ki_BadCalls (F : AtI K "BadCalls" "BadCalls.__init__" (inClass (top 30) 0)) (T : ExF K mg "BadCalls" "BookError" ["at"]) : KeepsI P w K mg base "BadCalls" ["at"] := by
  refine ini_of F ⟨rfl, rfl, rfl, by decide +kernel, rfl, by decide +kernel, by decide +kernel⟩ (fun _ _ _ _ _ _ us hl => match us, hl with | [_, _], _ => rfl) (fun fd cdv A outer s H vs Q E h => ?_)
  obtain ⟨a, ys, rfl, hl, ha, k⟩ := h
  obtain ⟨y, rfl⟩ := one_of hl
  refine ⟨_, pss_one (ps_ost (pv 0) (pv 1)), ?_⟩
  refine ⟨_, rfl, _, rfl, a, _, rfl, T.ox, T.no _ (by decide), .inl ⟨ha, fun d hd hne => ?_⟩⟩
  refine k d _ hd hne upd_same ?_ fun b o hb e => ?_
  · rw [upd_ne hne, upd_same]
    rfl
  · rw [upd_ne hb, upd_ne (ne_of_none e hd)]
    exact e
theorem ki_BadUnit (F : AtI K "BadUnit" "BadUnit.__init__" (inClass (top 31) 0)) (T : ExF K mg "BadUnit" "BookError" ["at"]) : KeepsI P w K mg base "BadUnit" ["at"] := by
  refine ini_of F ⟨rfl, rfl, rfl, by decide +kernel, rfl, by decide +kernel, by decide +kernel⟩ (fun _ _ _ _ _ _ us hl => match us, hl with | [_, _], _ => rfl) (fun fd cdv A outer s H vs Q E h => ?_)
  obtain ⟨a, ys, rfl, hl, ha, k⟩ := h
  obtain ⟨y, rfl⟩ := one_of hl
  refine ⟨_, pss_one (ps_ost (pv 0) (pv 1)), ?_⟩
  refine ⟨_, rfl, _, rfl, a, _, rfl, T.ox, T.no _ (by decide), .inl ⟨ha, fun d hd hne => ?_⟩⟩
  refine k d _ hd hne upd_same ?_ fun b o hb e => ?_
  · rw [upd_ne hne, upd_same]
    rfl
  · rw [upd_ne hb, upd_ne (ne_of_none e hd)]
    exact e
theorem ki_BadEdit (F : AtI K "BadEdit" "BadEdit.__init__" (inClass (top 32) 0)) (T : ExF K mg "BadEdit" "BookError" ["at", "what"]) : KeepsI P w K mg base "BadEdit" ["at", "what"] := by
  refine ini_of F ⟨rfl, rfl, rfl, by decide +kernel, rfl, by decide +kernel, by decide +kernel⟩ (fun _ _ _ _ _ _ us hl => match us, hl with | [_, _, _], _ => rfl) (fun fd cdv A outer s H vs Q E h => ?_)
  obtain ⟨a, ys, rfl, hl, ha, k⟩ := h
  obtain ⟨y, z, rfl⟩ := two_of hl
  refine ⟨_, pss_cons (ps_ost (pv 0) (pv 1)) (pss_one (ps_ost (pv 0) (pv 2))), ?_⟩
  refine ⟨_, rfl, _, rfl, a, _, rfl, T.ox, T.no _ (by decide), .inl ⟨ha, fun d hd hne => ?_⟩⟩
  refine ⟨_, rfl, _, rfl, a, _, rfl, T.ox, T.no _ (by decide), .inr ⟨d, _, upd_same, (by rw [upd_ne hne, upd_same]), (by show 1 ≤ 900; decide), ?_⟩⟩
  refine k d _ hd hne ?_ upd_same fun b o hb e => ?_
  · rw [upd_ne hne.symm, upd_same]
  · rw [upd_ne (ne_of_none e hd), upd_ne hb, upd_ne (ne_of_none e hd)]
    exact e
theorem ki_TooLarge (F : AtI K "TooLarge" "TooLarge.__init__" (inClass (top 34) 0)) (T : ExF K mg "TooLarge" "BookError" ["most"]) : KeepsI P w K mg base "TooLarge" ["most"] := by
  refine ini_of F ⟨rfl, rfl, rfl, by decide +kernel, rfl, by decide +kernel, by decide +kernel⟩ (fun _ _ _ _ _ _ us hl => match us, hl with | [_, _], _ => rfl) (fun fd cdv A outer s H vs Q E h => ?_)
  obtain ⟨a, ys, rfl, hl, ha, k⟩ := h
  obtain ⟨y, rfl⟩ := one_of hl
  refine ⟨_, pss_one (ps_ost (pv 0) (pv 1)), ?_⟩
  refine ⟨_, rfl, _, rfl, a, _, rfl, T.ox, T.no _ (by decide), .inl ⟨ha, fun d hd hne => ?_⟩⟩
  refine k d _ hd hne upd_same ?_ fun b o hb e => ?_
  · rw [upd_ne hne, upd_same]
    rfl
  · rw [upd_ne hb, upd_ne (ne_of_none e hd)]
    exact e
theorem ki_NotTold (F : AtI K "NotTold" "NotTold.__init__" (inClass (top 35) 0)) (T : ExF K mg "NotTold" "BookError" ["word"]) : KeepsI P w K mg base "NotTold" ["word"] := by
  refine ini_of F ⟨rfl, rfl, rfl, by decide +kernel, rfl, by decide +kernel, by decide +kernel⟩ (fun _ _ _ _ _ _ us hl => match us, hl with | [_, _], _ => rfl) (fun fd cdv A outer s H vs Q E h => ?_)
  obtain ⟨a, ys, rfl, hl, ha, k⟩ := h
  obtain ⟨y, rfl⟩ := one_of hl
  refine ⟨_, pss_one (ps_ost (pv 0) (pv 1)), ?_⟩
  refine ⟨_, rfl, _, rfl, a, _, rfl, T.ox, T.no _ (by decide), .inl ⟨ha, fun d hd hne => ?_⟩⟩
  refine k d _ hd hne upd_same ?_ fun b o hb e => ?_
  · rw [upd_ne hne, upd_same]
    rfl
  · rw [upd_ne hb, upd_ne (ne_of_none e hd)]
    exact e
theorem ki_BadSteps (F : AtI K "BadSteps" "BadSteps.__init__" (inClass (top 37) 0)) (T : ExF K mg "BadSteps" "BookError" ["at"]) : KeepsI P w K mg base "BadSteps" ["at"] := by
  refine ini_of F ⟨rfl, rfl, rfl, by decide +kernel, rfl, by decide +kernel, by decide +kernel⟩ (fun _ _ _ _ _ _ us hl => match us, hl with | [_, _], _ => rfl) (fun fd cdv A outer s H vs Q E h => ?_)
  obtain ⟨a, ys, rfl, hl, ha, k⟩ := h
  obtain ⟨y, rfl⟩ := one_of hl
  refine ⟨_, pss_one (ps_ost (pv 0) (pv 1)), ?_⟩
  refine ⟨_, rfl, _, rfl, a, _, rfl, T.ox, T.no _ (by decide), .inl ⟨ha, fun d hd hne => ?_⟩⟩
  refine k d _ hd hne upd_same ?_ fun b o hb e => ?_
  · rw [upd_ne hne, upd_same]
    rfl
  · rw [upd_ne hb, upd_ne (ne_of_none e hd)]
    exact e
theorem ki_NoLeast (F : AtI K "NoLeast" "NoLeast.__init__" (inClass (top 39) 0)) (T : ExF K mg "NoLeast" "BookError" ["step", "word"]) : KeepsI P w K mg base "NoLeast" ["step", "word"] := by
  refine ini_of F ⟨rfl, rfl, rfl, by decide +kernel, rfl, by decide +kernel, by decide +kernel⟩ (fun _ _ _ _ _ _ us hl => match us, hl with | [_, _, _], _ => rfl) (fun fd cdv A outer s H vs Q E h => ?_)
  obtain ⟨a, ys, rfl, hl, ha, k⟩ := h
  obtain ⟨y, z, rfl⟩ := two_of hl
  refine ⟨_, pss_cons (ps_ost (pv 0) (pv 1)) (pss_one (ps_ost (pv 0) (pv 2))), ?_⟩
  refine ⟨_, rfl, _, rfl, a, _, rfl, T.ox, T.no _ (by decide), .inl ⟨ha, fun d hd hne => ?_⟩⟩
  refine ⟨_, rfl, _, rfl, a, _, rfl, T.ox, T.no _ (by decide), .inr ⟨d, _, upd_same, (by rw [upd_ne hne, upd_same]), (by show 1 ≤ 900; decide), ?_⟩⟩
  refine k d _ hd hne ?_ upd_same fun b o hb e => ?_
  · rw [upd_ne hne.symm, upd_same]
  · rw [upd_ne (ne_of_none e hd), upd_ne hb, upd_ne (ne_of_none e hd)]
    exact e
theorem ki_BadPool (F : AtI K "BadPool" "BadPool.__init__" (inClass (top 40) 0)) (T : ExF K mg "BadPool" "BookError" ["at"]) : KeepsI P w K mg base "BadPool" ["at"] := by
  refine ini_of F ⟨rfl, rfl, rfl, by decide +kernel, rfl, by decide +kernel, by decide +kernel⟩ (fun _ _ _ _ _ _ us hl => match us, hl with | [_, _], _ => rfl) (fun fd cdv A outer s H vs Q E h => ?_)
  obtain ⟨a, ys, rfl, hl, ha, k⟩ := h
  obtain ⟨y, rfl⟩ := one_of hl
  refine ⟨_, pss_one (ps_ost (pv 0) (pv 1)), ?_⟩
  refine ⟨_, rfl, _, rfl, a, _, rfl, T.ox, T.no _ (by decide), .inl ⟨ha, fun d hd hne => ?_⟩⟩
  refine k d _ hd hne upd_same ?_ fun b o hb e => ?_
  · rw [upd_ne hne, upd_same]
    rfl
  · rw [upd_ne hb, upd_ne (ne_of_none e hd)]
    exact e
theorem ki_Unfit (F : AtI K "Unfit" "Unfit.__init__" (inClass (top 41) 0)) (T : ExF K mg "Unfit" "BookError" ["what"]) : KeepsI P w K mg base "Unfit" ["what"] := by
  refine ini_of F ⟨rfl, rfl, rfl, by decide +kernel, rfl, by decide +kernel, by decide +kernel⟩ (fun _ _ _ _ _ _ us hl => match us, hl with | [_, _], _ => rfl) (fun fd cdv A outer s H vs Q E h => ?_)
  obtain ⟨a, ys, rfl, hl, ha, k⟩ := h
  obtain ⟨y, rfl⟩ := one_of hl
  refine ⟨_, pss_one (ps_ost (pv 0) (pv 1)), ?_⟩
  refine ⟨_, rfl, _, rfl, a, _, rfl, T.ox, T.no _ (by decide), .inl ⟨ha, fun d hd hne => ?_⟩⟩
  refine k d _ hd hne upd_same ?_ fun b o hb e => ?_
  · rw [upd_ne hne, upd_same]
    rfl
  · rw [upd_ne hb, upd_ne (ne_of_none e hd)]
    exact e
theorem ki_NoNeed (F : AtI K "NoNeed" "NoNeed.__init__" (inClass (top 42) 0)) (T : ExF K mg "NoNeed" "BookError" ["place"]) : KeepsI P w K mg base "NoNeed" ["place"] := by
  refine ini_of F ⟨rfl, rfl, rfl, by decide +kernel, rfl, by decide +kernel, by decide +kernel⟩ (fun _ _ _ _ _ _ us hl => match us, hl with | [_, _], _ => rfl) (fun fd cdv A outer s H vs Q E h => ?_)
  obtain ⟨a, ys, rfl, hl, ha, k⟩ := h
  obtain ⟨y, rfl⟩ := one_of hl
  refine ⟨_, pss_one (ps_ost (pv 0) (pv 1)), ?_⟩
  refine ⟨_, rfl, _, rfl, a, _, rfl, T.ox, T.no _ (by decide), .inl ⟨ha, fun d hd hne => ?_⟩⟩
  refine k d _ hd hne upd_same ?_ fun b o hb e => ?_
  · rw [upd_ne hne, upd_same]
    rfl
  · rw [upd_ne hb, upd_ne (ne_of_none e hd)]
    exact e
theorem ki_NoAlarm (F : AtI K "NoAlarm" "NoAlarm.__init__" (inClass (top 43) 0)) (T : ExF K mg "NoAlarm" "BookError" ["place"]) : KeepsI P w K mg base "NoAlarm" ["place"] := by
  refine ini_of F ⟨rfl, rfl, rfl, by decide +kernel, rfl, by decide +kernel, by decide +kernel⟩ (fun _ _ _ _ _ _ us hl => match us, hl with | [_, _], _ => rfl) (fun fd cdv A outer s H vs Q E h => ?_)
  obtain ⟨a, ys, rfl, hl, ha, k⟩ := h
  obtain ⟨y, rfl⟩ := one_of hl
  refine ⟨_, pss_one (ps_ost (pv 0) (pv 1)), ?_⟩
  refine ⟨_, rfl, _, rfl, a, _, rfl, T.ox, T.no _ (by decide), .inl ⟨ha, fun d hd hne => ?_⟩⟩
  refine k d _ hd hne upd_same ?_ fun b o hb e => ?_
  · rw [upd_ne hne, upd_same]
    rfl
  · rw [upd_ne hb, upd_ne (ne_of_none e hd)]
    exact e
theorem ki_BadStory (F : AtI K "BadStory" "BadStory.__init__" (inClass (top 45) 0)) (T : ExF K mg "BadStory" "BookError" ["at"]) : KeepsI P w K mg base "BadStory" ["at"] := by
  refine ini_of F ⟨rfl, rfl, rfl, by decide +kernel, rfl, by decide +kernel, by decide +kernel⟩ (fun _ _ _ _ _ _ us hl => match us, hl with | [_, _], _ => rfl) (fun fd cdv A outer s H vs Q E h => ?_)
  obtain ⟨a, ys, rfl, hl, ha, k⟩ := h
  obtain ⟨y, rfl⟩ := one_of hl
  refine ⟨_, pss_one (ps_ost (pv 0) (pv 1)), ?_⟩
  refine ⟨_, rfl, _, rfl, a, _, rfl, T.ox, T.no _ (by decide), .inl ⟨ha, fun d hd hne => ?_⟩⟩
  refine k d _ hd hne upd_same ?_ fun b o hb e => ?_
  · rw [upd_ne hne, upd_same]
    rfl
  · rw [upd_ne hb, upd_ne (ne_of_none e hd)]
    exact e
theorem ki_BadStoryText (F : AtI K "BadStoryText" "BadStoryText.__init__" (inClass (top 46) 0)) (T : ExF K mg "BadStoryText" "BookError" ["line"]) : KeepsI P w K mg base "BadStoryText" ["line"] := by
  refine ini_of F ⟨rfl, rfl, rfl, by decide +kernel, rfl, by decide +kernel, by decide +kernel⟩ (fun _ _ _ _ _ _ us hl => match us, hl with | [_, _], _ => rfl) (fun fd cdv A outer s H vs Q E h => ?_)
  obtain ⟨a, ys, rfl, hl, ha, k⟩ := h
  obtain ⟨y, rfl⟩ := one_of hl
  refine ⟨_, pss_one (ps_ost (pv 0) (pv 1)), ?_⟩
  refine ⟨_, rfl, _, rfl, a, _, rfl, T.ox, T.no _ (by decide), .inl ⟨ha, fun d hd hne => ?_⟩⟩
  refine k d _ hd hne upd_same ?_ fun b o hb e => ?_
  · rw [upd_ne hne, upd_same]
    rfl
  · rw [upd_ne hb, upd_ne (ne_of_none e hd)]
    exact e
end
end My

namespace My
open PySem PySem.Spec PyProof.Rows L2
local macro_rules | `(tactic| walk_at "lv") => `(tactic| first | exact Or.inl rfl | exact Or.inr rfl)
/-! ### the 45 errors -/
def errs : List (Str × List Str) := ([("BadLot", ["what"]), ("TooLong", ["most"]), ("BadText", ["line", "what"]), ("BadLetter", []), ("BadTest", []), ("BadMove", []), ("BadMachine", ["what", "at"]), ("BadLots", []), ("BadBook", ["what", "at"]), ("BadWord", []), ("NoLetter", []), ("NoTest", [])] : List (Str × List Str)) ++ ([("BadRaise", ["at"]), ("BadNames", []), ("BadProgram", ["name", "place", "what"]), ("NoProcedure", ["name"]), ("BadPlace", []), ("BadChoices", ["at"]), ("BadFuel", []), ("BadMost", []), ("TooMany", ["most"]), ("BadStep", []), ("OtherAlphabet", []), ("BadEntry", [])] : List (Str × List Str)) ++ ([("BadResults", []), ("BadOrder", []), ("BadPicks", []), ("BadTreatment", []), ("BadCalls", ["at"]), ("BadUnit", ["at"]), ("BadEdit", ["at", "what"]), ("NothingBack", []), ("TooLarge", ["most"]), ("NotTold", ["word"]), ("NoCouple", []), ("BadSteps", ["at"])] : List (Str × List Str)) ++ ([("StillLies", []), ("NoLeast", ["step", "word"]), ("BadPool", ["at"]), ("Unfit", ["what"]), ("NoNeed", ["place"]), ("NoAlarm", ["place"]), ("BadDeed", []), ("BadStory", ["at"]), ("BadStoryText", ["line"])] : List (Str × List Str))
/-- at v the i-th error of these attributes -/
def ErrAt (K : PySem.W.Frag) (vs : List V) (H : Hp) (v : V) (i : Nat) : Prop := ∃ (a : Addr) (x : Str) (fs : List Str), v = .ref a ∧ errs[i]? = some (x, fs) ∧
  ((fs = [] ∧ H a = some (exo a (He.ga K x) none)) ∨ (fs ≠ [] ∧ ∃ d, H a = some (exo a (He.ga K x) (some d)) ∧ H d = some (exd d (fs.zip vs).reverse)))
abbrev ErrsAt (K : PySem.W.Frag) (vs : List V) (H : Hp) : List V → List Nat → Prop := Paired (ErrAt K vs H)
theorem ErrAt.same {K : PySem.W.Frag} {vs : List V} {H H' : Hp} {v : V} {i : Nat} (s : Same H H') (h : ErrAt K vs H v i) : ErrAt K vs H' v i := by
  obtain ⟨a, x, fs, rfl, e, h⟩ := h
  refine ⟨a, x, fs, rfl, e, ?_⟩
  rcases h with ⟨e1, e2⟩ | ⟨e1, d, e2, e3⟩
  · exact .inl ⟨e1, s _ _ e2⟩
  · exact .inr ⟨e1, d, s _ _ e2, s _ _ e3⟩
theorem ErrsAt.same {K : PySem.W.Frag} {vs : List V} {H H' : Hp} (s : Same H H') : ∀ {xs : List V} {is : List Nat}, ErrsAt K vs H xs is → ErrsAt K vs H' xs is
  | _, _, .nil => .nil
  | _, _, .cons h t => .cons (h.same s) (ErrsAt.same s t)
theorem ErrsAt.app {K : PySem.W.Frag} {vs : List V} {H : Hp} : ∀ {xs ys : List V} {is js : List Nat}, ErrsAt K vs H xs is → ErrsAt K vs H ys js → ErrsAt K vs H (xs ++ ys) (is ++ js)
  | _, _, _, _, .nil, h => h
  | _, _, _, _, .cons h t, g => .cons h (ErrsAt.app t g)
theorem same_new {H H1 : Hp} {p : Addr} {o : HO} (s : Same H H1) (hp : H1 p = none) : Same H (upd H1 p o) := fun b u e => by
  rw [upd_ne (ne_of_none (s b u e) hp)]
  exact s b u e
section
variable {K : PySem.W.Frag} {va vb vc : V}
def MkE (K : PySem.W.Frag) (va vb vc : V) (te : TE) (i : Nat) : Prop := ∀ (σ : L2.St) (H : Hp) (Q : VK), σ[0]? = some (some va) → σ[1]? = some (some vb) → σ[2]? = some (some vc) →
  (∀ v H', Same H H' → ErrAt K [va, vb, vc] H' v i → Q v H') → te σ H Q
def MkL (K : PySem.W.Frag) (va vb vc : V) (ta : TA) (is : List Nat) : Prop := ∀ (σ : L2.St) (H : Hp) (Q : List V → Hp → Prop), σ[0]? = some (some va) → σ[1]? = some (some vb) → σ[2]? = some (some vc) →
  (∀ xs H', Same H H' → ErrsAt K [va, vb, vc] H' xs is → Q xs H') → ta σ H Q
theorem mn : MkL K va vb vc tNil [] := fun σ H Q _ _ _ k => k [] H (Same.refl H) .nil
theorem mc {te : TE} {ta : TA} {i : Nat} {is : List Nat} (h : MkE K va vb vc te i) (t : MkL K va vb vc ta is) : MkL K va vb vc (tCons te ta) (i :: is) := fun σ H Q h0 h1 h2 k =>
  h σ H _ h0 h1 h2 fun v H1 s1 e1 => t σ H1 _ h0 h1 h2 fun xs H2 s2 e2 => k (v :: xs) H2 (s1.trans s2) (.cons (e1.same s2) e2)
theorem me0 {i : Nat} {x : Str} (e : errs[i]? = some (x, [])) : MkE K va vb vc (fun _ H Q => ∀ a, H a = none → Q (.ref a) (upd H a (exo a (He.ga K x) none))) i := fun σ H Q _ _ _ k a ha =>
  k _ _ (same_new (Same.refl H) ha) ⟨a, x, [], rfl, e, .inl ⟨rfl, upd_same⟩⟩
theorem meN {i : Nat} {x : Str} {fs : List Str} {ta : TA} (e : errs[i]? = some (x, fs)) (nf : fs ≠ []) (ys : List V) (hy : ys.length = fs.length) (hz : fs.zip ys = fs.zip [va, vb, vc]) (hl : ys.length ≤ 1000)
    (ht : ∀ (σ : L2.St) (H : Hp) (Q : List V → Hp → Prop), σ[0]? = some (some va) → σ[1]? = some (some vb) → σ[2]? = some (some vc) → Q ys H → ta σ H Q) : MkE K va vb vc (tExv (He.ga K x) (spIni (He.ga K x) fs) ta) i := fun σ H Q h0 h1 h2 k =>
  ht σ H _ h0 h1 h2 ⟨hl, fun a ha => ⟨a, ys, rfl, hy, upd_same, fun d H' hd hne e1 e2 k1 => ⟨rfl, k _ _ (fun b o z => k1 b o (ne_of_none z ha) (by rw [upd_ne (ne_of_none z ha)]; exact z)) ⟨a, x, fs, rfl, e, .inr ⟨nf, d, e1, by rw [e2, hz]⟩⟩⟩⟩⟩
theorem me1 {i : Nat} {x f : Str} (e : errs[i]? = some (x, [f])) : MkE K va vb vc (tExv (He.ga K x) (spIni (He.ga K x) [f]) (tCons (tVar 0) tNil)) i :=
  meN e (fun z => nomatch z) [va] rfl rfl (by show 1 ≤ 1000; decide) fun σ H Q h0 _ _ q => ⟨_, h0, q⟩
theorem me2 {i : Nat} {x f g : Str} (e : errs[i]? = some (x, [f, g])) : MkE K va vb vc (tExv (He.ga K x) (spIni (He.ga K x) [f, g]) (tCons (tVar 0) (tCons (tVar 1) tNil))) i :=
  meN e (fun z => nomatch z) [va, vb] rfl rfl (by show 2 ≤ 1000; decide) fun σ H Q h0 h1 _ q => ⟨_, h0, _, h1, q⟩
theorem me3 {i : Nat} {x f g k : Str} (e : errs[i]? = some (x, [f, g, k])) : MkE K va vb vc (tExv (He.ga K x) (spIni (He.ga K x) [f, g, k]) (tCons (tVar 0) (tCons (tVar 1) (tCons (tVar 2) tNil)))) i :=
  meN e (fun z => nomatch z) [va, vb, vc] rfl rfl (by show 3 ≤ 1000; decide) fun σ H Q h0 h1 h2 q => ⟨_, h0, _, h1, _, h2, q⟩
theorem len_ok {H : Hp} {xs : List V} {is : List Nat} (h : ErrsAt K [va, vb, vc] H xs is) (hl : is.length ≤ 100) : xs.length ≤ sizeLine := by
  rw [Paired.length h]
  exact Nat.le_trans hl (by decide)
theorem st_new {ta : TA} {is : List Nat} {D : Ends} {H : Hp} {o : Option V} (h : MkL K va vb vc ta is) (hl : is.length ≤ 100)
    (k : ∀ p xs H', Same H H' → H' p = some (.lst xs) → ErrsAt K [va, vb, vc] H' xs is → D.nx [some va, some vb, some vc, some (.ref p)] H') : tAsg (tLst ta) (gName 3) D [some va, some vb, some vc, o] H :=
  h _ H _ rfl rfl rfl fun xs H1 s1 e1 => ⟨len_ok e1 hl, fun p hp => k p xs _ (same_new s1 hp) upd_same (e1.same (same_new (Same.refl H1) hp))⟩
theorem cat_ok {ta : TA} {is js : List Nat} {Q : VK} {H H0 : Hp} {l : Addr} {xs : List V} {σ : L2.St} (hs : σ = [some va, some vb, some vc, some (.ref l)]) (s0 : Same H0 H) (el : H l = some (.lst xs)) (ex : ErrsAt K [va, vb, vc] H xs is) (h : MkL K va vb vc ta js) (hl : is.length + js.length ≤ 100)
    (k : ∀ p ys H', Same H0 H' → H' p = some (.lst ys) → ErrsAt K [va, vb, vc] H' ys (is ++ js) → Q (.ref p) H') : tOp rCat (tVar 3) (tLst ta) σ H Q := by
  subst hs
  refine ⟨_, rfl, ?_⟩
  refine h _ H _ rfl rfl rfl fun ys H1 s1 e1 => ⟨len_ok e1 (by omega), fun q hq => ?_⟩
  have s2 := same_new (o := .lst ys) (Same.refl H1) hq
  refine ⟨l, q, xs, ys, rfl, rfl, s2 _ _ (s1 _ _ el), upd_same, ?_, fun p hp => ?_⟩
  · rw [Paired.length ex, Paired.length e1]
    exact Nat.le_trans hl (by decide)
  · have s3 := same_new (o := .lst (xs ++ ys)) (Same.refl _) hp
    exact k p _ _ (((s0.trans s1).trans s2).trans s3) upd_same (((ex.same ((s1.trans s2).trans s3))).app (e1.same (s2.trans s3)))
theorem st_more {ta : TA} {is js : List Nat} {D : Ends} {H H0 : Hp} {l : Addr} {xs : List V} (s0 : Same H0 H) (el : H l = some (.lst xs)) (ex : ErrsAt K [va, vb, vc] H xs is) (h : MkL K va vb vc ta js) (hl : is.length + js.length ≤ 100)
    (k : ∀ p ys H', Same H0 H' → H' p = some (.lst ys) → ErrsAt K [va, vb, vc] H' ys (is ++ js) → D.nx [some va, some vb, some vc, some (.ref p)] H') : tAsg (tOp rCat (tVar 3) (tLst ta)) (gName 3) D [some va, some vb, some vc, some (.ref l)] H :=
  cat_ok rfl s0 el ex h hl fun p ys H' s e q => k p ys H' s e q
end
/-- what the proofs of the defs ask of the errors -/
structure Src (P : Program) (w : World) (K : PySem.W.Frag) (mg : Str → Option Value) (base : Heap) : Prop where
  e : ∀ x fs, (x, fs) ∈ errs → ExF K mg x "BookError" fs
  i : ∀ x fs, (x, fs) ∈ errs → fs ≠ [] → KeepsI P w K mg base x fs
theorem pe_ki {X : Cx} {k : Nat} {x : Str} {fs : List Str} {e : Expr} {es : List Expr} {ta : TA} {p pos : Pos} (S : Src X.prog X.w X.K X.mg X.base) (m : (x, fs) ∈ errs) (nf : fs ≠ []) (hr : Room (k + 2) X.A) (hg : Gl X x) (ha : PA X (e :: es) ta)
    (dbg : (x == ("__debug__" : Str)) = false := by decide) (hst : starEach (e :: es) X.env = (false, eval e X.env) :: starEach es X.env := by rfl) (hpl : (backTo pos (starEach es X.env)).any (·.1) = false := by rfl) :
    PE X (.Call (.Name x p) (e :: es) [] pos) (tExv (He.ga X.K x) (spIni (He.ga X.K x) fs) ta) := by
  obtain ⟨fd, F, b⟩ := S.i x fs m nf
  exact pe_exv (S.e x fs m) nf rfl F (hr.mono (by omega)) b pass0 hg ha dbg hst hpl
def spErrs (K : PySem.W.Frag) : Sp := fun vs H Q _ => ∃ va vb vc, vs = [va, vb, vc] ∧ ∀ p xs H', Same H H' → H' p = some (.lst xs) → ErrsAt K [va, vb, vc] H' xs (List.range 45) → Q (.ref p) H'
abbrev s_errs : Stmt := top 51
abbrev N_errs : List Str := ["_law_a", "_law_b", "_law_c", "_law_some"]
theorem sc_errs : FnScope N_errs ["_law_a", "_law_b", "_law_c"] (defScope s_errs) := ⟨rfl, rfl, rfl, by decide +kernel, rfl, by decide +kernel, by decide +kernel⟩
section
variable {P : Program} {w : World} {K : PySem.W.Frag} {mg : Str → Option Value} {base : Heap}
theorem kp_errs (F : At K mg "_law_errors" s_errs) (S : Src P w K mg base) : Keeps CX0 P w K mg base "_law_errors" 3 ["_law_a", "_law_b", "_law_c"] (spErrs K) := by
  refine keeps_of F sc_errs (fun _ _ _ _ _ _ us hl => match us, hl with | [_, _, _], _ => rfl) (fun vs H Q E h => ?_) (fun f cdv A outer s H vs Q E hr h => ?_)
  · obtain ⟨a, b, c, rfl, _⟩ := h
    rfl
  · obtain ⟨va, vb, vc, rfl, k⟩ := h
    refine ⟨_, (pss_cons (ps_set (i := 3) sc_errs.nd rfl (by walk_at "lv") (pe_lst (pa_cons (pe_ki (x := "BadLot") (fs := ["what"]) S (by decide +kernel) (fun z => nomatch z) hr (by rfl) (pa_cons (pv 0) pa_nil)) (pa_cons (pe_ki (x := "TooLong") (fs := ["most"]) S (by decide +kernel) (fun z => nomatch z) hr (by rfl) (pa_cons (pv 0) pa_nil)) (pa_cons (pe_ki (x := "BadText") (fs := ["line", "what"]) S (by decide +kernel) (fun z => nomatch z) hr (by rfl) (pa_cons (pv 0) (pa_cons (pv 1) pa_nil))) (pa_cons (pe_exv0 (S.e "BadLetter" _ (by decide +kernel)) rfl (by rfl)) (pa_cons (pe_exv0 (S.e "BadTest" _ (by decide +kernel)) rfl (by rfl)) (pa_cons (pe_exv0 (S.e "BadMove" _ (by decide +kernel)) rfl (by rfl)) (pa_cons (pe_ki (x := "BadMachine") (fs := ["what", "at"]) S (by decide +kernel) (fun z => nomatch z) hr (by rfl) (pa_cons (pv 0) (pa_cons (pv 1) pa_nil))) (pa_cons (pe_exv0 (S.e "BadLots" _ (by decide +kernel)) rfl (by rfl)) pa_nil))))))))))
      (pss_cons (ps_set (i := 3) sc_errs.nd rfl (by walk_at "lv") (pe_op op_cat (pv 3) (pe_lst (pa_cons (pe_ki (x := "BadBook") (fs := ["what", "at"]) S (by decide +kernel) (fun z => nomatch z) hr (by rfl) (pa_cons (pv 0) (pa_cons (pv 1) pa_nil))) (pa_cons (pe_exv0 (S.e "BadWord" _ (by decide +kernel)) rfl (by rfl)) (pa_cons (pe_exv0 (S.e "NoLetter" _ (by decide +kernel)) rfl (by rfl)) (pa_cons (pe_exv0 (S.e "NoTest" _ (by decide +kernel)) rfl (by rfl)) (pa_cons (pe_ki (x := "BadRaise") (fs := ["at"]) S (by decide +kernel) (fun z => nomatch z) hr (by rfl) (pa_cons (pv 0) pa_nil)) (pa_cons (pe_exv0 (S.e "BadNames" _ (by decide +kernel)) rfl (by rfl)) (pa_cons (pe_ki (x := "BadProgram") (fs := ["name", "place", "what"]) S (by decide +kernel) (fun z => nomatch z) hr (by rfl) (pa_cons (pv 0) (pa_cons (pv 1) (pa_cons (pv 2) pa_nil)))) pa_nil))))))))))
      (pss_cons (ps_set (i := 3) sc_errs.nd rfl (by walk_at "lv") (pe_op op_cat (pv 3) (pe_lst (pa_cons (pe_ki (x := "NoProcedure") (fs := ["name"]) S (by decide +kernel) (fun z => nomatch z) hr (by rfl) (pa_cons (pv 0) pa_nil)) (pa_cons (pe_exv0 (S.e "BadPlace" _ (by decide +kernel)) rfl (by rfl)) (pa_cons (pe_ki (x := "BadChoices") (fs := ["at"]) S (by decide +kernel) (fun z => nomatch z) hr (by rfl) (pa_cons (pv 0) pa_nil)) (pa_cons (pe_exv0 (S.e "BadFuel" _ (by decide +kernel)) rfl (by rfl)) (pa_cons (pe_exv0 (S.e "BadMost" _ (by decide +kernel)) rfl (by rfl)) (pa_cons (pe_ki (x := "TooMany") (fs := ["most"]) S (by decide +kernel) (fun z => nomatch z) hr (by rfl) (pa_cons (pv 0) pa_nil)) (pa_cons (pe_exv0 (S.e "BadStep" _ (by decide +kernel)) rfl (by rfl)) pa_nil))))))))))
      (pss_cons (ps_set (i := 3) sc_errs.nd rfl (by walk_at "lv") (pe_op op_cat (pv 3) (pe_lst (pa_cons (pe_exv0 (S.e "OtherAlphabet" _ (by decide +kernel)) rfl (by rfl)) (pa_cons (pe_exv0 (S.e "BadEntry" _ (by decide +kernel)) rfl (by rfl)) (pa_cons (pe_exv0 (S.e "BadResults" _ (by decide +kernel)) rfl (by rfl)) (pa_cons (pe_exv0 (S.e "BadOrder" _ (by decide +kernel)) rfl (by rfl)) (pa_cons (pe_exv0 (S.e "BadPicks" _ (by decide +kernel)) rfl (by rfl)) (pa_cons (pe_exv0 (S.e "BadTreatment" _ (by decide +kernel)) rfl (by rfl)) (pa_cons (pe_ki (x := "BadCalls") (fs := ["at"]) S (by decide +kernel) (fun z => nomatch z) hr (by rfl) (pa_cons (pv 0) pa_nil)) pa_nil))))))))))
      (pss_cons (ps_set (i := 3) sc_errs.nd rfl (by walk_at "lv") (pe_op op_cat (pv 3) (pe_lst (pa_cons (pe_ki (x := "BadUnit") (fs := ["at"]) S (by decide +kernel) (fun z => nomatch z) hr (by rfl) (pa_cons (pv 0) pa_nil)) (pa_cons (pe_ki (x := "BadEdit") (fs := ["at", "what"]) S (by decide +kernel) (fun z => nomatch z) hr (by rfl) (pa_cons (pv 0) (pa_cons (pv 1) pa_nil))) (pa_cons (pe_exv0 (S.e "NothingBack" _ (by decide +kernel)) rfl (by rfl)) (pa_cons (pe_ki (x := "TooLarge") (fs := ["most"]) S (by decide +kernel) (fun z => nomatch z) hr (by rfl) (pa_cons (pv 0) pa_nil)) (pa_cons (pe_ki (x := "NotTold") (fs := ["word"]) S (by decide +kernel) (fun z => nomatch z) hr (by rfl) (pa_cons (pv 0) pa_nil)) (pa_cons (pe_exv0 (S.e "NoCouple" _ (by decide +kernel)) rfl (by rfl)) (pa_cons (pe_ki (x := "BadSteps") (fs := ["at"]) S (by decide +kernel) (fun z => nomatch z) hr (by rfl) (pa_cons (pv 0) pa_nil)) pa_nil))))))))))
      (pss_cons (ps_set (i := 3) sc_errs.nd rfl (by walk_at "lv") (pe_op op_cat (pv 3) (pe_lst (pa_cons (pe_exv0 (S.e "StillLies" _ (by decide +kernel)) rfl (by rfl)) (pa_cons (pe_ki (x := "NoLeast") (fs := ["step", "word"]) S (by decide +kernel) (fun z => nomatch z) hr (by rfl) (pa_cons (pv 0) (pa_cons (pv 1) pa_nil))) (pa_cons (pe_ki (x := "BadPool") (fs := ["at"]) S (by decide +kernel) (fun z => nomatch z) hr (by rfl) (pa_cons (pv 0) pa_nil)) (pa_cons (pe_ki (x := "Unfit") (fs := ["what"]) S (by decide +kernel) (fun z => nomatch z) hr (by rfl) (pa_cons (pv 0) pa_nil)) (pa_cons (pe_ki (x := "NoNeed") (fs := ["place"]) S (by decide +kernel) (fun z => nomatch z) hr (by rfl) (pa_cons (pv 0) pa_nil)) (pa_cons (pe_ki (x := "NoAlarm") (fs := ["place"]) S (by decide +kernel) (fun z => nomatch z) hr (by rfl) (pa_cons (pv 0) pa_nil)) (pa_cons (pe_exv0 (S.e "BadDeed" _ (by decide +kernel)) rfl (by rfl)) (pa_cons (pe_ki (x := "BadStory") (fs := ["at"]) S (by decide +kernel) (fun z => nomatch z) hr (by rfl) (pa_cons (pv 0) pa_nil)) pa_nil)))))))))))
      (pss_one (ps_ret (pe_op op_cat (pv 3) (pe_lst (pa_cons (pe_ki (x := "BadStoryText") (fs := ["line"]) S (by decide +kernel) (fun z => nomatch z) hr (by rfl) (pa_cons (pv 0) pa_nil)) pa_nil))))))))))), ?_⟩
    refine st_new (mc (me1 (i := 0) rfl) (mc (me1 (i := 1) rfl) (mc (me2 (i := 2) rfl) (mc (me0 (i := 3) rfl) (mc (me0 (i := 4) rfl) (mc (me0 (i := 5) rfl) (mc (me2 (i := 6) rfl) (mc (me0 (i := 7) rfl) mn)))))))) (by decide) fun p0 x0 H0 s0 e0 q0 => ?_
    refine st_more s0 e0 q0 (mc (me2 (i := 8) rfl) (mc (me0 (i := 9) rfl) (mc (me0 (i := 10) rfl) (mc (me0 (i := 11) rfl) (mc (me1 (i := 12) rfl) (mc (me0 (i := 13) rfl) (mc (me3 (i := 14) rfl) mn))))))) (by decide) fun p1 x1 H1 s1 e1 q1 => ?_
    refine st_more s1 e1 q1 (mc (me1 (i := 15) rfl) (mc (me0 (i := 16) rfl) (mc (me1 (i := 17) rfl) (mc (me0 (i := 18) rfl) (mc (me0 (i := 19) rfl) (mc (me1 (i := 20) rfl) (mc (me0 (i := 21) rfl) mn))))))) (by decide) fun p2 x2 H2 s2 e2 q2 => ?_
    refine st_more s2 e2 q2 (mc (me0 (i := 22) rfl) (mc (me0 (i := 23) rfl) (mc (me0 (i := 24) rfl) (mc (me0 (i := 25) rfl) (mc (me0 (i := 26) rfl) (mc (me0 (i := 27) rfl) (mc (me1 (i := 28) rfl) mn))))))) (by decide) fun p3 x3 H3 s3 e3 q3 => ?_
    refine st_more s3 e3 q3 (mc (me1 (i := 29) rfl) (mc (me2 (i := 30) rfl) (mc (me0 (i := 31) rfl) (mc (me1 (i := 32) rfl) (mc (me1 (i := 33) rfl) (mc (me0 (i := 34) rfl) (mc (me1 (i := 35) rfl) mn))))))) (by decide) fun p4 x4 H4 s4 e4 q4 => ?_
    refine st_more s4 e4 q4 (mc (me0 (i := 36) rfl) (mc (me2 (i := 37) rfl) (mc (me1 (i := 38) rfl) (mc (me1 (i := 39) rfl) (mc (me1 (i := 40) rfl) (mc (me1 (i := 41) rfl) (mc (me0 (i := 42) rfl) (mc (me1 (i := 43) rfl) mn)))))))) (by decide) fun p5 x5 H5 s5 e5 q5 => ?_
    exact cat_ok rfl s5 e5 q5 (mc (me1 (i := 44) rfl) mn) (by decide) fun p6 x6 H6 s6 e6 q6 => k _ _ _ s6 e6 q6
end
end My

namespace My
open PySem PySem.Spec PyProof.Rows L2
local macro_rules | `(tactic| walk_at "lv") => `(tactic| first | exact Or.inl rfl | exact Or.inr rfl)
/-! ### _law_kinds -/
theorem errs_unlike : ∀ i, i < 45 → ∀ j, j < 45 → (decide (errs[i]?.map (·.1) = errs[j]?.map (·.1))) = decide (i = j) := by decide +kernel
theorem errs_len : errs.length = 45 := by decide +kernel
theorem lt_errs {i : Nat} {p : Str × List Str} (h : errs[i]? = some p) : i < 45 := by
  rw [← errs_len]
  exact (List.getElem?_eq_some_iff.1 h).1
theorem errs_dec {i j : Nat} {x y : Str} {fs gs : List Str} (h : errs[i]? = some (x, fs)) (g : errs[j]? = some (y, gs)) : decide (x = y) = decide (i = j) := by
  have e := errs_unlike i (lt_errs h) j (lt_errs g)
  rw [h, g] at e
  rw [← e]
  by_cases z : x = y
  · rw [decide_eq_true z]
    exact (decide_eq_true (congrArg some z)).symm
  · rw [decide_eq_false z]
    exact (decide_eq_false fun q => z (Option.some.inj q)).symm
theorem ExKnown.same {H H' : Hp} {pn : List (Addr × Obj)} {C a : Addr} (s : Same H H') (h : ExKnown H pn C a) : ExKnown H' pn C a := by
  rcases h with ⟨d, e, k⟩ | ⟨oe, m, h1, h2, h3⟩
  · refine .inl ⟨d, s _ _ e, fun dd z => ?_⟩
    obtain ⟨fs, q⟩ := k dd z
    exact ⟨fs, s _ _ q⟩
  · refine .inr ⟨oe, m, h1, h2, fun dd z => ?_⟩
    obtain ⟨fs, q⟩ := h3 dd z
    exact ⟨fs, s _ _ q⟩
/-- the answers of isinstance, of the i-th error -/
def kindsOf (i : Nat) (js : List Nat) : List V := js.map fun j => .bl (decide (i = j))
section
variable {P : Program} {w : World} {K : PySem.W.Frag} {mg : Str → Option Value} {base : Heap} {pn : List (Addr × Obj)} {i : Nat} {x : Str} {fs : List Str} {a : Addr}
abbrev BookAt (K : PySem.W.Frag) : Prop := ∃ q N bs bm sn sub ab col dd k0 k1 k2 k3 k5 nid, K.lookup (He.ga K "BookError") = some (excClassObj "BookError" q (He.ga K "BookError") N bs bm true sn sub ab col dd k0 k1 k2 k3 k5 nid)
def KnB (K : PySem.W.Frag) (mg : Str → Option Value) (pn : List (Addr × Obj)) (x : Str) (i : Nat) (a : Addr) (ta : TA) (js : List Nat) : Prop := ∀ (σ : L2.St) (H : Hp) (Q : List V → Hp → Prop), σ[0]? = some (some (.ref a)) → ExKnown H pn (He.ga K x) a → Q (kindsOf i js) H → ta σ H Q
theorem kn : KnB K mg pn x i a tNil [] := fun _ _ _ _ _ q => q
theorem kc {j : Nat} {y : Str} {gs : List Str} {ta : TA} {js : List Nat} (S : Src P w K mg base) (B : BookAt K) (ex : errs[i]? = some (x, fs)) (ey : errs[j]? = some (y, gs)) (hb : y ≠ "BookError") (t : KnB K mg pn x i a ta js) :
    KnB K mg pn x i a (tCons (tCB (rIsx K mg pn) (tCons (tVar 0) (tCons (tC (.ref (He.ga K y))) tNil))) ta) (j :: js) := fun σ H Q h0 kx q => by
  have Tx := S.e x fs (List.mem_of_getElem? ex)
  have Ty := S.e y gs (List.mem_of_getElem? ey)
  refine ⟨_, h0, a, _, .ref (He.ga K y), x, _, fs, decide (i = j), rfl, (fun u r => r), Tx, kx, ?_, ?_⟩
  · rw [kit_two Tx Ty hb B, errs_dec ex ey]
  · exact t σ H _ h0 kx q
theorem kst_new {ta : TA} {js : List Nat} {D : Ends} {H : Hp} {o : Option V} (kx : ExKnown H pn (He.ga K x) a) (h : KnB K mg pn x i a ta js) (hl : js.length ≤ 100)
    (k : ∀ p H', Same H H' → H' p = some (.lst (kindsOf i js)) → D.nx [some (.ref a), some (.ref p)] H') : tAsg (tLst ta) (gName 1) D [some (.ref a), o] H :=
  h _ H _ rfl kx ⟨by unfold kindsOf; rw [List.length_map]; exact Nat.le_trans hl (by decide), fun p hp => k p _ (same_new (Same.refl H) hp) upd_same⟩
theorem kcat {ta : TA} {is js : List Nat} {Q : VK} {H H0 : Hp} {l : Addr} {σ : L2.St} (hs : σ = [some (.ref a), some (.ref l)]) (kx : ExKnown H0 pn (He.ga K x) a) (s0 : Same H0 H) (el : H l = some (.lst (kindsOf i is))) (h : KnB K mg pn x i a ta js) (hl : is.length + js.length ≤ 100)
    (k : ∀ p H', Same H0 H' → H' p = some (.lst (kindsOf i (is ++ js))) → Q (.ref p) H') : tOp rCat (tVar 1) (tLst ta) σ H Q := by
  subst hs
  have l1 : (kindsOf i js).length ≤ sizeLine := by unfold kindsOf; rw [List.length_map]; exact Nat.le_trans (by omega : js.length ≤ 100) (by decide)
  refine ⟨_, rfl, h _ H _ rfl (kx.same s0) ⟨l1, fun q hq => ?_⟩⟩
  have s2 := same_new (o := .lst (kindsOf i js)) (Same.refl H) hq
  refine ⟨l, q, _, _, rfl, rfl, s2 _ _ el, upd_same, ?_, fun p hp => ?_⟩
  · unfold kindsOf
    rw [List.length_map, List.length_map]
    exact Nat.le_trans hl (by decide)
  · have s3 := same_new (o := .lst (kindsOf i is ++ kindsOf i js)) (Same.refl _) hp
    refine k p _ ((s0.trans s2).trans s3) ?_
    unfold kindsOf
    rw [List.map_append]
    exact upd_same
theorem kst_more {ta : TA} {is js : List Nat} {D : Ends} {H H0 : Hp} {l : Addr} (kx : ExKnown H0 pn (He.ga K x) a) (s0 : Same H0 H) (el : H l = some (.lst (kindsOf i is))) (h : KnB K mg pn x i a ta js) (hl : is.length + js.length ≤ 100)
    (k : ∀ p H', Same H0 H' → H' p = some (.lst (kindsOf i (is ++ js))) → D.nx [some (.ref a), some (.ref p)] H') : tAsg (tOp rCat (tVar 1) (tLst ta)) (gName 1) D [some (.ref a), some (.ref l)] H :=
  kcat rfl kx s0 el h hl fun p H' s e => k p H' s e
end
abbrev s_kinds : Stmt := top 52
abbrev N_kinds : List Str := ["_law_e", "_law_told"]
theorem sc_kinds : FnScope N_kinds ["_law_e"] (defScope s_kinds) := ⟨rfl, rfl, rfl, by decide +kernel, rfl, by decide +kernel, by decide +kernel⟩
/-- the descriptor of object.__class__ -/
structure Desc (K : PySem.W.Frag) : Prop where
  g : PySem.W.specialIn K (.builtin "object.__class__") "__get__" = some (some (.builtin "getset_descriptor.__get__"))
  t : PySem.W.takesIn K (.builtin "object.__class__") = some true
theorem ErrAt.known {K : PySem.W.Frag} {vs : List V} {H : Hp} {v : V} {i : Nat} (h : ErrAt K vs H v i) : ∃ a x fs, v = .ref a ∧ errs[i]? = some (x, fs) ∧ ∀ pn, ExKnown H pn (He.ga K x) a := by
  obtain ⟨a, x, fs, rfl, e, h⟩ := h
  refine ⟨a, x, fs, rfl, e, fun pn => .inl ?_⟩
  rcases h with ⟨_, e2⟩ | ⟨_, d, e2, e3⟩
  · exact ⟨none, e2, fun dd z => nomatch z⟩
  · exact ⟨some d, e2, fun dd z => ⟨(fs.zip vs).reverse, by cases z; exact e3⟩⟩
def spKinds (K : PySem.W.Frag) : Sp := fun vs H Q _ => ∃ v i ws, vs = [v] ∧ ErrAt K ws H v i ∧ ∀ p H', Same H H' → H' p = some (.lst (kindsOf i (List.range 45))) → Q (.ref p) H'
section
variable {P : Program} {w : World} {K : PySem.W.Frag} {mg : Str → Option Value} {base : Heap}
theorem kp_kinds (F : At K mg "_law_kinds" s_kinds) (S : Src P w K mg base) (B : BookAt K) (DD : Desc K) (nIs : mg "isinstance" = none) : Keeps CX0 P w K mg base "_law_kinds" 1 ["_law_e"] (spKinds K) := by
  refine keeps_of F sc_kinds (fun _ _ _ _ _ _ us hl => match us, hl with | [_], _ => rfl) (fun vs H Q E h => ?_) (fun f cdv A outer s H vs Q E hr h => ?_)
  · obtain ⟨v, i, ws, rfl, _⟩ := h
    rfl
  · obtain ⟨v, i, ws, rfl, ev, k⟩ := h
    obtain ⟨a, x, fs, rfl, ex, kx⟩ := ev.known
    refine ⟨_, (pss_cons (ps_set (i := 1) sc_kinds.nd rfl (by walk_at "lv") (pe_lst (pa_cons (pe_callB (call_isx DD.g DD.t) (by rfl) nIs boot_isinstance (pa_cons (pv 0) (pa_cons (pe_glob (v := .ref (He.ga K "BadLot")) (by rfl) (S.e "BadLot" ["what"] (by decide +kernel)).g rfl) pa_nil))) (pa_cons (pe_callB (call_isx DD.g DD.t) (by rfl) nIs boot_isinstance (pa_cons (pv 0) (pa_cons (pe_glob (v := .ref (He.ga K "TooLong")) (by rfl) (S.e "TooLong" ["most"] (by decide +kernel)).g rfl) pa_nil))) (pa_cons (pe_callB (call_isx DD.g DD.t) (by rfl) nIs boot_isinstance (pa_cons (pv 0) (pa_cons (pe_glob (v := .ref (He.ga K "BadText")) (by rfl) (S.e "BadText" ["line", "what"] (by decide +kernel)).g rfl) pa_nil))) (pa_cons (pe_callB (call_isx DD.g DD.t) (by rfl) nIs boot_isinstance (pa_cons (pv 0) (pa_cons (pe_glob (v := .ref (He.ga K "BadLetter")) (by rfl) (S.e "BadLetter" [] (by decide +kernel)).g rfl) pa_nil))) pa_nil))))))
      (pss_cons (ps_set (i := 1) sc_kinds.nd rfl (by walk_at "lv") (pe_op op_cat (pv 1) (pe_lst (pa_cons (pe_callB (call_isx DD.g DD.t) (by rfl) nIs boot_isinstance (pa_cons (pv 0) (pa_cons (pe_glob (v := .ref (He.ga K "BadTest")) (by rfl) (S.e "BadTest" [] (by decide +kernel)).g rfl) pa_nil))) (pa_cons (pe_callB (call_isx DD.g DD.t) (by rfl) nIs boot_isinstance (pa_cons (pv 0) (pa_cons (pe_glob (v := .ref (He.ga K "BadMove")) (by rfl) (S.e "BadMove" [] (by decide +kernel)).g rfl) pa_nil))) (pa_cons (pe_callB (call_isx DD.g DD.t) (by rfl) nIs boot_isinstance (pa_cons (pv 0) (pa_cons (pe_glob (v := .ref (He.ga K "BadMachine")) (by rfl) (S.e "BadMachine" ["what", "at"] (by decide +kernel)).g rfl) pa_nil))) (pa_cons (pe_callB (call_isx DD.g DD.t) (by rfl) nIs boot_isinstance (pa_cons (pv 0) (pa_cons (pe_glob (v := .ref (He.ga K "BadLots")) (by rfl) (S.e "BadLots" [] (by decide +kernel)).g rfl) pa_nil))) pa_nil)))))))
      (pss_cons (ps_set (i := 1) sc_kinds.nd rfl (by walk_at "lv") (pe_op op_cat (pv 1) (pe_lst (pa_cons (pe_callB (call_isx DD.g DD.t) (by rfl) nIs boot_isinstance (pa_cons (pv 0) (pa_cons (pe_glob (v := .ref (He.ga K "BadBook")) (by rfl) (S.e "BadBook" ["what", "at"] (by decide +kernel)).g rfl) pa_nil))) (pa_cons (pe_callB (call_isx DD.g DD.t) (by rfl) nIs boot_isinstance (pa_cons (pv 0) (pa_cons (pe_glob (v := .ref (He.ga K "BadWord")) (by rfl) (S.e "BadWord" [] (by decide +kernel)).g rfl) pa_nil))) (pa_cons (pe_callB (call_isx DD.g DD.t) (by rfl) nIs boot_isinstance (pa_cons (pv 0) (pa_cons (pe_glob (v := .ref (He.ga K "NoLetter")) (by rfl) (S.e "NoLetter" [] (by decide +kernel)).g rfl) pa_nil))) (pa_cons (pe_callB (call_isx DD.g DD.t) (by rfl) nIs boot_isinstance (pa_cons (pv 0) (pa_cons (pe_glob (v := .ref (He.ga K "NoTest")) (by rfl) (S.e "NoTest" [] (by decide +kernel)).g rfl) pa_nil))) pa_nil)))))))
      (pss_cons (ps_set (i := 1) sc_kinds.nd rfl (by walk_at "lv") (pe_op op_cat (pv 1) (pe_lst (pa_cons (pe_callB (call_isx DD.g DD.t) (by rfl) nIs boot_isinstance (pa_cons (pv 0) (pa_cons (pe_glob (v := .ref (He.ga K "BadRaise")) (by rfl) (S.e "BadRaise" ["at"] (by decide +kernel)).g rfl) pa_nil))) (pa_cons (pe_callB (call_isx DD.g DD.t) (by rfl) nIs boot_isinstance (pa_cons (pv 0) (pa_cons (pe_glob (v := .ref (He.ga K "BadNames")) (by rfl) (S.e "BadNames" [] (by decide +kernel)).g rfl) pa_nil))) (pa_cons (pe_callB (call_isx DD.g DD.t) (by rfl) nIs boot_isinstance (pa_cons (pv 0) (pa_cons (pe_glob (v := .ref (He.ga K "BadProgram")) (by rfl) (S.e "BadProgram" ["name", "place", "what"] (by decide +kernel)).g rfl) pa_nil))) (pa_cons (pe_callB (call_isx DD.g DD.t) (by rfl) nIs boot_isinstance (pa_cons (pv 0) (pa_cons (pe_glob (v := .ref (He.ga K "NoProcedure")) (by rfl) (S.e "NoProcedure" ["name"] (by decide +kernel)).g rfl) pa_nil))) pa_nil)))))))
      (pss_cons (ps_set (i := 1) sc_kinds.nd rfl (by walk_at "lv") (pe_op op_cat (pv 1) (pe_lst (pa_cons (pe_callB (call_isx DD.g DD.t) (by rfl) nIs boot_isinstance (pa_cons (pv 0) (pa_cons (pe_glob (v := .ref (He.ga K "BadPlace")) (by rfl) (S.e "BadPlace" [] (by decide +kernel)).g rfl) pa_nil))) (pa_cons (pe_callB (call_isx DD.g DD.t) (by rfl) nIs boot_isinstance (pa_cons (pv 0) (pa_cons (pe_glob (v := .ref (He.ga K "BadChoices")) (by rfl) (S.e "BadChoices" ["at"] (by decide +kernel)).g rfl) pa_nil))) (pa_cons (pe_callB (call_isx DD.g DD.t) (by rfl) nIs boot_isinstance (pa_cons (pv 0) (pa_cons (pe_glob (v := .ref (He.ga K "BadFuel")) (by rfl) (S.e "BadFuel" [] (by decide +kernel)).g rfl) pa_nil))) (pa_cons (pe_callB (call_isx DD.g DD.t) (by rfl) nIs boot_isinstance (pa_cons (pv 0) (pa_cons (pe_glob (v := .ref (He.ga K "BadMost")) (by rfl) (S.e "BadMost" [] (by decide +kernel)).g rfl) pa_nil))) pa_nil)))))))
      (pss_cons (ps_set (i := 1) sc_kinds.nd rfl (by walk_at "lv") (pe_op op_cat (pv 1) (pe_lst (pa_cons (pe_callB (call_isx DD.g DD.t) (by rfl) nIs boot_isinstance (pa_cons (pv 0) (pa_cons (pe_glob (v := .ref (He.ga K "TooMany")) (by rfl) (S.e "TooMany" ["most"] (by decide +kernel)).g rfl) pa_nil))) (pa_cons (pe_callB (call_isx DD.g DD.t) (by rfl) nIs boot_isinstance (pa_cons (pv 0) (pa_cons (pe_glob (v := .ref (He.ga K "BadStep")) (by rfl) (S.e "BadStep" [] (by decide +kernel)).g rfl) pa_nil))) (pa_cons (pe_callB (call_isx DD.g DD.t) (by rfl) nIs boot_isinstance (pa_cons (pv 0) (pa_cons (pe_glob (v := .ref (He.ga K "OtherAlphabet")) (by rfl) (S.e "OtherAlphabet" [] (by decide +kernel)).g rfl) pa_nil))) (pa_cons (pe_callB (call_isx DD.g DD.t) (by rfl) nIs boot_isinstance (pa_cons (pv 0) (pa_cons (pe_glob (v := .ref (He.ga K "BadEntry")) (by rfl) (S.e "BadEntry" [] (by decide +kernel)).g rfl) pa_nil))) pa_nil)))))))
      (pss_cons (ps_set (i := 1) sc_kinds.nd rfl (by walk_at "lv") (pe_op op_cat (pv 1) (pe_lst (pa_cons (pe_callB (call_isx DD.g DD.t) (by rfl) nIs boot_isinstance (pa_cons (pv 0) (pa_cons (pe_glob (v := .ref (He.ga K "BadResults")) (by rfl) (S.e "BadResults" [] (by decide +kernel)).g rfl) pa_nil))) (pa_cons (pe_callB (call_isx DD.g DD.t) (by rfl) nIs boot_isinstance (pa_cons (pv 0) (pa_cons (pe_glob (v := .ref (He.ga K "BadOrder")) (by rfl) (S.e "BadOrder" [] (by decide +kernel)).g rfl) pa_nil))) (pa_cons (pe_callB (call_isx DD.g DD.t) (by rfl) nIs boot_isinstance (pa_cons (pv 0) (pa_cons (pe_glob (v := .ref (He.ga K "BadPicks")) (by rfl) (S.e "BadPicks" [] (by decide +kernel)).g rfl) pa_nil))) (pa_cons (pe_callB (call_isx DD.g DD.t) (by rfl) nIs boot_isinstance (pa_cons (pv 0) (pa_cons (pe_glob (v := .ref (He.ga K "BadTreatment")) (by rfl) (S.e "BadTreatment" [] (by decide +kernel)).g rfl) pa_nil))) pa_nil)))))))
      (pss_cons (ps_set (i := 1) sc_kinds.nd rfl (by walk_at "lv") (pe_op op_cat (pv 1) (pe_lst (pa_cons (pe_callB (call_isx DD.g DD.t) (by rfl) nIs boot_isinstance (pa_cons (pv 0) (pa_cons (pe_glob (v := .ref (He.ga K "BadCalls")) (by rfl) (S.e "BadCalls" ["at"] (by decide +kernel)).g rfl) pa_nil))) (pa_cons (pe_callB (call_isx DD.g DD.t) (by rfl) nIs boot_isinstance (pa_cons (pv 0) (pa_cons (pe_glob (v := .ref (He.ga K "BadUnit")) (by rfl) (S.e "BadUnit" ["at"] (by decide +kernel)).g rfl) pa_nil))) (pa_cons (pe_callB (call_isx DD.g DD.t) (by rfl) nIs boot_isinstance (pa_cons (pv 0) (pa_cons (pe_glob (v := .ref (He.ga K "BadEdit")) (by rfl) (S.e "BadEdit" ["at", "what"] (by decide +kernel)).g rfl) pa_nil))) (pa_cons (pe_callB (call_isx DD.g DD.t) (by rfl) nIs boot_isinstance (pa_cons (pv 0) (pa_cons (pe_glob (v := .ref (He.ga K "NothingBack")) (by rfl) (S.e "NothingBack" [] (by decide +kernel)).g rfl) pa_nil))) pa_nil)))))))
      (pss_cons (ps_set (i := 1) sc_kinds.nd rfl (by walk_at "lv") (pe_op op_cat (pv 1) (pe_lst (pa_cons (pe_callB (call_isx DD.g DD.t) (by rfl) nIs boot_isinstance (pa_cons (pv 0) (pa_cons (pe_glob (v := .ref (He.ga K "TooLarge")) (by rfl) (S.e "TooLarge" ["most"] (by decide +kernel)).g rfl) pa_nil))) (pa_cons (pe_callB (call_isx DD.g DD.t) (by rfl) nIs boot_isinstance (pa_cons (pv 0) (pa_cons (pe_glob (v := .ref (He.ga K "NotTold")) (by rfl) (S.e "NotTold" ["word"] (by decide +kernel)).g rfl) pa_nil))) (pa_cons (pe_callB (call_isx DD.g DD.t) (by rfl) nIs boot_isinstance (pa_cons (pv 0) (pa_cons (pe_glob (v := .ref (He.ga K "NoCouple")) (by rfl) (S.e "NoCouple" [] (by decide +kernel)).g rfl) pa_nil))) (pa_cons (pe_callB (call_isx DD.g DD.t) (by rfl) nIs boot_isinstance (pa_cons (pv 0) (pa_cons (pe_glob (v := .ref (He.ga K "BadSteps")) (by rfl) (S.e "BadSteps" ["at"] (by decide +kernel)).g rfl) pa_nil))) pa_nil)))))))
      (pss_cons (ps_set (i := 1) sc_kinds.nd rfl (by walk_at "lv") (pe_op op_cat (pv 1) (pe_lst (pa_cons (pe_callB (call_isx DD.g DD.t) (by rfl) nIs boot_isinstance (pa_cons (pv 0) (pa_cons (pe_glob (v := .ref (He.ga K "StillLies")) (by rfl) (S.e "StillLies" [] (by decide +kernel)).g rfl) pa_nil))) (pa_cons (pe_callB (call_isx DD.g DD.t) (by rfl) nIs boot_isinstance (pa_cons (pv 0) (pa_cons (pe_glob (v := .ref (He.ga K "NoLeast")) (by rfl) (S.e "NoLeast" ["step", "word"] (by decide +kernel)).g rfl) pa_nil))) (pa_cons (pe_callB (call_isx DD.g DD.t) (by rfl) nIs boot_isinstance (pa_cons (pv 0) (pa_cons (pe_glob (v := .ref (He.ga K "BadPool")) (by rfl) (S.e "BadPool" ["at"] (by decide +kernel)).g rfl) pa_nil))) (pa_cons (pe_callB (call_isx DD.g DD.t) (by rfl) nIs boot_isinstance (pa_cons (pv 0) (pa_cons (pe_glob (v := .ref (He.ga K "Unfit")) (by rfl) (S.e "Unfit" ["what"] (by decide +kernel)).g rfl) pa_nil))) pa_nil)))))))
      (pss_cons (ps_set (i := 1) sc_kinds.nd rfl (by walk_at "lv") (pe_op op_cat (pv 1) (pe_lst (pa_cons (pe_callB (call_isx DD.g DD.t) (by rfl) nIs boot_isinstance (pa_cons (pv 0) (pa_cons (pe_glob (v := .ref (He.ga K "NoNeed")) (by rfl) (S.e "NoNeed" ["place"] (by decide +kernel)).g rfl) pa_nil))) (pa_cons (pe_callB (call_isx DD.g DD.t) (by rfl) nIs boot_isinstance (pa_cons (pv 0) (pa_cons (pe_glob (v := .ref (He.ga K "NoAlarm")) (by rfl) (S.e "NoAlarm" ["place"] (by decide +kernel)).g rfl) pa_nil))) (pa_cons (pe_callB (call_isx DD.g DD.t) (by rfl) nIs boot_isinstance (pa_cons (pv 0) (pa_cons (pe_glob (v := .ref (He.ga K "BadDeed")) (by rfl) (S.e "BadDeed" [] (by decide +kernel)).g rfl) pa_nil))) (pa_cons (pe_callB (call_isx DD.g DD.t) (by rfl) nIs boot_isinstance (pa_cons (pv 0) (pa_cons (pe_glob (v := .ref (He.ga K "BadStory")) (by rfl) (S.e "BadStory" ["at"] (by decide +kernel)).g rfl) pa_nil))) pa_nil)))))))
      (pss_one (ps_ret (pe_op op_cat (pv 1) (pe_lst (pa_cons (pe_callB (call_isx DD.g DD.t) (by rfl) nIs boot_isinstance (pa_cons (pv 0) (pa_cons (pe_glob (v := .ref (He.ga K "BadStoryText")) (by rfl) (S.e "BadStoryText" ["line"] (by decide +kernel)).g rfl) pa_nil))) pa_nil)))))))))))))))), ?_⟩
    have kx := kx []
    refine kst_new kx (kc S B ex (show errs[0]? = some _ from rfl) (by decide +kernel) (kc S B ex (show errs[1]? = some _ from rfl) (by decide +kernel) (kc S B ex (show errs[2]? = some _ from rfl) (by decide +kernel) (kc S B ex (show errs[3]? = some _ from rfl) (by decide +kernel) kn)))) (by decide) fun p0 H0 s0 e0 => ?_
    refine kst_more kx s0 e0 (kc S B ex (show errs[4]? = some _ from rfl) (by decide +kernel) (kc S B ex (show errs[5]? = some _ from rfl) (by decide +kernel) (kc S B ex (show errs[6]? = some _ from rfl) (by decide +kernel) (kc S B ex (show errs[7]? = some _ from rfl) (by decide +kernel) kn)))) (by decide) fun p1 H1 s1 e1 => ?_
    refine kst_more kx s1 e1 (kc S B ex (show errs[8]? = some _ from rfl) (by decide +kernel) (kc S B ex (show errs[9]? = some _ from rfl) (by decide +kernel) (kc S B ex (show errs[10]? = some _ from rfl) (by decide +kernel) (kc S B ex (show errs[11]? = some _ from rfl) (by decide +kernel) kn)))) (by decide) fun p2 H2 s2 e2 => ?_
    refine kst_more kx s2 e2 (kc S B ex (show errs[12]? = some _ from rfl) (by decide +kernel) (kc S B ex (show errs[13]? = some _ from rfl) (by decide +kernel) (kc S B ex (show errs[14]? = some _ from rfl) (by decide +kernel) (kc S B ex (show errs[15]? = some _ from rfl) (by decide +kernel) kn)))) (by decide) fun p3 H3 s3 e3 => ?_
    refine kst_more kx s3 e3 (kc S B ex (show errs[16]? = some _ from rfl) (by decide +kernel) (kc S B ex (show errs[17]? = some _ from rfl) (by decide +kernel) (kc S B ex (show errs[18]? = some _ from rfl) (by decide +kernel) (kc S B ex (show errs[19]? = some _ from rfl) (by decide +kernel) kn)))) (by decide) fun p4 H4 s4 e4 => ?_
    refine kst_more kx s4 e4 (kc S B ex (show errs[20]? = some _ from rfl) (by decide +kernel) (kc S B ex (show errs[21]? = some _ from rfl) (by decide +kernel) (kc S B ex (show errs[22]? = some _ from rfl) (by decide +kernel) (kc S B ex (show errs[23]? = some _ from rfl) (by decide +kernel) kn)))) (by decide) fun p5 H5 s5 e5 => ?_
    refine kst_more kx s5 e5 (kc S B ex (show errs[24]? = some _ from rfl) (by decide +kernel) (kc S B ex (show errs[25]? = some _ from rfl) (by decide +kernel) (kc S B ex (show errs[26]? = some _ from rfl) (by decide +kernel) (kc S B ex (show errs[27]? = some _ from rfl) (by decide +kernel) kn)))) (by decide) fun p6 H6 s6 e6 => ?_
    refine kst_more kx s6 e6 (kc S B ex (show errs[28]? = some _ from rfl) (by decide +kernel) (kc S B ex (show errs[29]? = some _ from rfl) (by decide +kernel) (kc S B ex (show errs[30]? = some _ from rfl) (by decide +kernel) (kc S B ex (show errs[31]? = some _ from rfl) (by decide +kernel) kn)))) (by decide) fun p7 H7 s7 e7 => ?_
    refine kst_more kx s7 e7 (kc S B ex (show errs[32]? = some _ from rfl) (by decide +kernel) (kc S B ex (show errs[33]? = some _ from rfl) (by decide +kernel) (kc S B ex (show errs[34]? = some _ from rfl) (by decide +kernel) (kc S B ex (show errs[35]? = some _ from rfl) (by decide +kernel) kn)))) (by decide) fun p8 H8 s8 e8 => ?_
    refine kst_more kx s8 e8 (kc S B ex (show errs[36]? = some _ from rfl) (by decide +kernel) (kc S B ex (show errs[37]? = some _ from rfl) (by decide +kernel) (kc S B ex (show errs[38]? = some _ from rfl) (by decide +kernel) (kc S B ex (show errs[39]? = some _ from rfl) (by decide +kernel) kn)))) (by decide) fun p9 H9 s9 e9 => ?_
    refine kst_more kx s9 e9 (kc S B ex (show errs[40]? = some _ from rfl) (by decide +kernel) (kc S B ex (show errs[41]? = some _ from rfl) (by decide +kernel) (kc S B ex (show errs[42]? = some _ from rfl) (by decide +kernel) (kc S B ex (show errs[43]? = some _ from rfl) (by decide +kernel) kn)))) (by decide) fun p10 H10 s10 e10 => ?_
    exact kcat rfl kx s10 e10 (kc S B ex (show errs[44]? = some _ from rfl) (by decide +kernel) kn) (by decide) fun p11 H11 s11 e11 => k _ _ s11 e11
end
end My

namespace My
open PySem PySem.Spec PyProof.Rows L2
local macro_rules | `(tactic| walk_at "lv") => `(tactic| first | exact Or.inl rfl | exact Or.inr rfl)
/-! ### _law_kinds, called within an except suite with the error that the suite holds -/
/-- the def at x keeps sp there; p: the held error and its object -/
def KeepsH (P : Program) (w : World) (K : PySem.W.Frag) (mg : Str → Option Value) (base : Heap) (x : Str) (k : Nat) (ps : List Str) (sp : Addr × Obj → Sp) : Prop := ∃ fd,
  (∀ (A : Around) (outer : List Env) (s : Shared) (H : Hp) (args : Args) (us : List Value) (vs : List V) (Q : VK) (E : XK) (p : Addr × Obj), L2H.RoomH k A → L2H.PinOk outer H s p → Env0 P w K mg base A outer s H → BindsTo s fd args (ps.zip us) → Vals vs us → sp p vs H Q E →
    codeAny (model P w) A (.call (.ref (He.ga K x)) args) (CR CX0 outer P w H s Q E) s) ∧ Binds K fd ps [] ∧ PySem.W.keepIn K (.ref (He.ga K x)) = true ∧ mg x = some (.ref (He.ga K x))
section
variable {P : Program} {w : World} {K : PySem.W.Frag} {mg : Str → Option Value} {base : Heap}
theorem keepsH_of {x : Str} {st : Stmt} {N ps : List Str} {k : Nat} {sp : Addr × Obj → Sp} (F : At K mg x st) (S : FnScope N ps (defScope st)) (hb : bindsBy st x ps) (len : ∀ p vs H Q E, sp p vs H Q E → vs.length = ps.length)
    (hbody : ∀ (f : Addr) (cdv : Value) (A : Around) (outer : List Env) (s : Shared) (H : Hp) (vs : List V) (Q : VK) (E : XK) (p : Addr × Obj), sp p vs H Q E →
      ∃ t, PSs (L2H.cxH CX0 P w K mg base N x (defScope st) f cdv A outer s H E p) (defBody st) t ∧ t { nx := fun _ H' => Q .non H', rt := Q } (start N vs) H) : KeepsH P w K mg base x (k + 1) ps sp := by
  obtain ⟨m, fd, F⟩ := F
  refine ⟨fd, ?_, F.bindsN hb, F.kp, m⟩
  obtain ⟨oc, od, dV, kV, doc, pm, an1, cdv, ct, osl, rfl, lk, hcd, _, _⟩ := F.ex
  intro A outer s H args us vs Q E p hr hpin e0 hbind r hsp
  have hlen := len _ _ _ _ _ hsp
  have inH : K.In s.heap := e0.mod.kin.keeps fun b o e => (e0.bs b o e).1
  have nl : s.heap.NoLimit := e0.mod.nolimit.keeps fun b o e => (e0.bs b o e).1
  have hkinds : ∀ y ∈ ps.zip us, (defScope st).names.lookup y.1 = some .local ∨ ((defScope st).names.lookup y.1 = some .cell ∧ ((cellsFrom (s.heap.objs.size + 1) (defScope st).names []).lookup y.1).isSome = true) := by
    intro y hy
    rcases S.par y.1 (List.of_mem_zip (show (y.1, y.2) ∈ _ from hy)).1 with q | q
    · exact .inl q
    · exact .inr ⟨q, PySem.W.cellsFrom_some _ _ _ (Or.inl q)⟩
  refine codeAny_call_function hr.depth (inH _ _ lk) rfl S.co S.gen rfl (PySem.W.codeRec_of inH hcd) (hbind _ _ _ _ ?_)
  refine wpAny_newFunctionEnv_cells S.kind hkinds fun env he s1 xc => ?_
  subst he
  refine ⟨nl.keeps xc.toInCall.keep, codeAny_func ?_⟩
  obtain ⟨t, ht, hq⟩ := hbody (He.ga K x) cdv A outer s H vs Q E p hsp
  have I0 : Inv (L2H.cxH CX0 P w K mg base N x (defScope st) (He.ga K x) cdv A outer s H E p) [] (L2.start N vs) H s1 := L2H.inv_startH S hpin e0 hlen r xc
  refine wpAny_mono (ht.run [] s1 _ H _ I0 hq) (fun fl s' hs => ?_) fun e s' hs => hs
  cases fl with
  | ret u =>
    obtain ⟨v, σ1, H', J, rv, q⟩ := hs
    exact ⟨v, H', J.os, J.bare, J.base, J.hok, rv, q⟩
  | next =>
    obtain ⟨σ', H', J, q⟩ := hs
    exact ⟨.non, H', J.os, J.bare, J.base, J.hok, rfl, q⟩
  | brk =>
    obtain ⟨_, _, _, q⟩ := hs
    exact False.elim q
  | cont =>
    obtain ⟨_, _, _, q⟩ := hs
    exact False.elim q
end
def spKindsH (K : PySem.W.Frag) (p : Addr × Obj) : Sp := fun vs H Q _ => vs = [.ref p.1] ∧ ∃ i x fs, errs[i]? = some (x, fs) ∧ p.2.cls = .ref (He.ga K x) ∧ (∃ us, p.2.data = .fields us) ∧ (∀ dd, p.2.dict = some dd → ∃ gs, H dd = some (.xd gs)) ∧
  ∀ q H', Same H H' → H' q = some (.lst (kindsOf i (List.range 45))) → Q (.ref q) H'
/-- _law_kinds(e) in the suite that holds e -/
def tKindsH (K : PySem.W.Frag) (a : Addr) (cls : Value) (d : Option Addr) (te : TE) : TE := fun σ H Q => te σ H fun v H1 => v = .ref a ∧ ∃ i x fs, errs[i]? = some (x, fs) ∧ cls = .ref (He.ga K x) ∧ (∀ dd, d = some dd → ∃ gs, H1 dd = some (.xd gs)) ∧
  ∀ q H', Same H1 H' → H' q = some (.lst (kindsOf i (List.range 45))) → Q (.ref q) H'
theorem pe_kindsH {X : Cx} {a : Addr} {oe : Obj} {cls : Value} {d : Option Addr} {pn : List (Addr × Obj)} {e : Expr} {te : TE} {p pos : Pos} {k : Nat} {x : Str} (h : KeepsH X.prog X.w X.K X.mg X.base x k ["_law_e"] (spKindsH X.K)) (hr : Room k X.A)
    (hz : Zc cls d oe) (hf : ∃ vs, oe.data = .fields vs) (hg : Gl (X.suite a ((a, oe) :: pn)) x) (he : PE (X.suite a ((a, oe) :: pn)) e te)
    (hdb : (x == ("__debug__" : Str)) = false := by decide) (hs : starEach (e :: []) X.env = (false, eval e X.env) :: starEach [] X.env := by rfl) (hpl : (backTo pos (starEach [] X.env)).any (·.1) = false := by rfl) :
    PE (X.suite a ((a, oe) :: pn)) (.Call (.Name x p) [e] [] pos) (tKindsH X.K a cls d te) := by
  obtain ⟨fd, F, b, kp, m⟩ := h
  refine ⟨fun pins s σ H Q I h => ?_⟩
  refine wpAny_Call_Name_kw (ld_glob I hg m ?_ hdb)
  refine PySem.W.callWith_K (h₀ := X.base) I.ok.mod.kin kp ?_ hs hpl
  have ha : PA (X.suite a ((a, oe) :: pn)) [e] (tCons te tNil) := pa_cons he pa_nil (hs := hs)
  refine thn (ha.run pos pins s σ H (fun vs H1 => vs = [.ref a] ∧ ∃ i x fs, errs[i]? = some (x, fs) ∧ cls = .ref (He.ga X.K x) ∧ (∀ dd, d = some dd → ∃ gs, H1 dd = some (.xd gs)) ∧
    ∀ q H', Same H1 H' → H' q = some (.lst (kindsOf i (List.range 45))) → Q (.ref q) H') I ?_) fun us s1 hh => ?_
  · show te σ H _
    have hm : ∀ v H1, (v = .ref a ∧ ∃ i x fs, errs[i]? = some (x, fs) ∧ cls = .ref (He.ga X.K x) ∧ (∀ dd, d = some dd → ∃ gs, H1 dd = some (.xd gs)) ∧ ∀ q H', Same H1 H' → H' q = some (.lst (kindsOf i (List.range 45))) → Q (.ref q) H') =
      (([v] : List V) = [.ref a] ∧ ∃ i x fs, errs[i]? = some (x, fs) ∧ cls = .ref (He.ga X.K x) ∧ (∀ dd, d = some dd → ∃ gs, H1 dd = some (.xd gs)) ∧ ∀ q H', Same H1 H' → H' q = some (.lst (kindsOf i (List.range 45))) → Q (.ref q) H') := fun v H1 => by
      have z : (v = V.ref a) = (([v] : List V) = [.ref a]) := propext ⟨fun q => by rw [q], fun q => (List.cons.inj q).1⟩
      rw [z]
    have h2 : te σ H fun v H1 => v = .ref a ∧ ∃ i x fs, errs[i]? = some (x, fs) ∧ cls = .ref (He.ga X.K x) ∧ (∀ dd, d = some dd → ∃ gs, H1 dd = some (.xd gs)) ∧ ∀ q H', Same H1 H' → H' q = some (.lst (kindsOf i (List.range 45))) → Q (.ref q) H' := h
    have e2 := funext fun v => funext fun H1 => hm v H1
    rw [e2] at h2
    exact h2
  · obtain ⟨vs, H1, I1, r, ev, i, y, fs, ei, ec, hd, kQ⟩ := hh
    subst ev
    refine ⟨I1.kIn, ?_⟩
    have hl : us.length = (["_law_e"] : List Str).length := by rw [← r.length]; rfl
    have bb := b s1 us I1.kIn (by rw [List.append_nil]; exact hl)
    rw [List.append_nil] at bb
    have P1 := I1.pin (a, oe) (List.mem_append_left _ List.mem_cons_self)
    have hpin : L2H.PinOk (X.suite a ((a, oe) :: pn)).stack H1 s1 (a, oe) := ⟨P1.1, P1.2.1, fun hm => (List.mem_cons.mp (I1.stkSub a hm)).elim P1.2.2.1 P1.2.2.2.1, P1.2.2.2.2⟩
    have room : L2H.RoomH k (X.suite a ((a, oe) :: pn)).A := ⟨hr.dp, hr.un⟩
    refine wpAny_call (codeAny_mono (F _ (X.suite a ((a, oe) :: pn)).stack s1 H1 ⟨us, []⟩ us _ Q E0 (a, oe) room hpin I1.env0 bb r ⟨rfl, i, y, fs, ei, by rw [← ec]; exact hz.1, hf, fun dd z => hd dd (by rw [← hz.2]; exact z), kQ⟩) fun rr s' hq => ?_)
    cases rr with
    | error e0 => exact hq.elim
    | ok fl =>
      cases fl with
      | ret u => exact I1.after hq
      | next => exact False.elim hq
      | brk => exact False.elim hq
      | cont => exact False.elim hq
section
variable {P : Program} {w : World} {K : PySem.W.Frag} {mg : Str → Option Value} {base : Heap}
theorem kh_kinds (F : At K mg "_law_kinds" s_kinds) (S : Src P w K mg base) (B : BookAt K) (DD : Desc K) (nIs : mg "isinstance" = none) : KeepsH P w K mg base "_law_kinds" 1 ["_law_e"] (spKindsH K) := by
  refine keepsH_of F sc_kinds (fun _ _ _ _ _ _ us hl => match us, hl with | [_], _ => rfl) (fun p vs H Q E h => ?_) (fun f cdv A outer s H vs Q E p h => ?_)
  · obtain ⟨rfl, _⟩ := h
    rfl
  · obtain ⟨rfl, i, x, fs, ex, e1, e2, e3, k⟩ := h
    refine ⟨_, (pss_cons (ps_set (i := 1) sc_kinds.nd rfl (by walk_at "lv") (pe_lst (pa_cons (pe_callB (call_isx DD.g DD.t) (by rfl) nIs boot_isinstance (pa_cons (pv 0) (pa_cons (pe_glob (v := .ref (He.ga K "BadLot")) (by rfl) (S.e "BadLot" ["what"] (by decide +kernel)).g rfl) pa_nil))) (pa_cons (pe_callB (call_isx DD.g DD.t) (by rfl) nIs boot_isinstance (pa_cons (pv 0) (pa_cons (pe_glob (v := .ref (He.ga K "TooLong")) (by rfl) (S.e "TooLong" ["most"] (by decide +kernel)).g rfl) pa_nil))) (pa_cons (pe_callB (call_isx DD.g DD.t) (by rfl) nIs boot_isinstance (pa_cons (pv 0) (pa_cons (pe_glob (v := .ref (He.ga K "BadText")) (by rfl) (S.e "BadText" ["line", "what"] (by decide +kernel)).g rfl) pa_nil))) (pa_cons (pe_callB (call_isx DD.g DD.t) (by rfl) nIs boot_isinstance (pa_cons (pv 0) (pa_cons (pe_glob (v := .ref (He.ga K "BadLetter")) (by rfl) (S.e "BadLetter" [] (by decide +kernel)).g rfl) pa_nil))) pa_nil))))))
      (pss_cons (ps_set (i := 1) sc_kinds.nd rfl (by walk_at "lv") (pe_op op_cat (pv 1) (pe_lst (pa_cons (pe_callB (call_isx DD.g DD.t) (by rfl) nIs boot_isinstance (pa_cons (pv 0) (pa_cons (pe_glob (v := .ref (He.ga K "BadTest")) (by rfl) (S.e "BadTest" [] (by decide +kernel)).g rfl) pa_nil))) (pa_cons (pe_callB (call_isx DD.g DD.t) (by rfl) nIs boot_isinstance (pa_cons (pv 0) (pa_cons (pe_glob (v := .ref (He.ga K "BadMove")) (by rfl) (S.e "BadMove" [] (by decide +kernel)).g rfl) pa_nil))) (pa_cons (pe_callB (call_isx DD.g DD.t) (by rfl) nIs boot_isinstance (pa_cons (pv 0) (pa_cons (pe_glob (v := .ref (He.ga K "BadMachine")) (by rfl) (S.e "BadMachine" ["what", "at"] (by decide +kernel)).g rfl) pa_nil))) (pa_cons (pe_callB (call_isx DD.g DD.t) (by rfl) nIs boot_isinstance (pa_cons (pv 0) (pa_cons (pe_glob (v := .ref (He.ga K "BadLots")) (by rfl) (S.e "BadLots" [] (by decide +kernel)).g rfl) pa_nil))) pa_nil)))))))
      (pss_cons (ps_set (i := 1) sc_kinds.nd rfl (by walk_at "lv") (pe_op op_cat (pv 1) (pe_lst (pa_cons (pe_callB (call_isx DD.g DD.t) (by rfl) nIs boot_isinstance (pa_cons (pv 0) (pa_cons (pe_glob (v := .ref (He.ga K "BadBook")) (by rfl) (S.e "BadBook" ["what", "at"] (by decide +kernel)).g rfl) pa_nil))) (pa_cons (pe_callB (call_isx DD.g DD.t) (by rfl) nIs boot_isinstance (pa_cons (pv 0) (pa_cons (pe_glob (v := .ref (He.ga K "BadWord")) (by rfl) (S.e "BadWord" [] (by decide +kernel)).g rfl) pa_nil))) (pa_cons (pe_callB (call_isx DD.g DD.t) (by rfl) nIs boot_isinstance (pa_cons (pv 0) (pa_cons (pe_glob (v := .ref (He.ga K "NoLetter")) (by rfl) (S.e "NoLetter" [] (by decide +kernel)).g rfl) pa_nil))) (pa_cons (pe_callB (call_isx DD.g DD.t) (by rfl) nIs boot_isinstance (pa_cons (pv 0) (pa_cons (pe_glob (v := .ref (He.ga K "NoTest")) (by rfl) (S.e "NoTest" [] (by decide +kernel)).g rfl) pa_nil))) pa_nil)))))))
      (pss_cons (ps_set (i := 1) sc_kinds.nd rfl (by walk_at "lv") (pe_op op_cat (pv 1) (pe_lst (pa_cons (pe_callB (call_isx DD.g DD.t) (by rfl) nIs boot_isinstance (pa_cons (pv 0) (pa_cons (pe_glob (v := .ref (He.ga K "BadRaise")) (by rfl) (S.e "BadRaise" ["at"] (by decide +kernel)).g rfl) pa_nil))) (pa_cons (pe_callB (call_isx DD.g DD.t) (by rfl) nIs boot_isinstance (pa_cons (pv 0) (pa_cons (pe_glob (v := .ref (He.ga K "BadNames")) (by rfl) (S.e "BadNames" [] (by decide +kernel)).g rfl) pa_nil))) (pa_cons (pe_callB (call_isx DD.g DD.t) (by rfl) nIs boot_isinstance (pa_cons (pv 0) (pa_cons (pe_glob (v := .ref (He.ga K "BadProgram")) (by rfl) (S.e "BadProgram" ["name", "place", "what"] (by decide +kernel)).g rfl) pa_nil))) (pa_cons (pe_callB (call_isx DD.g DD.t) (by rfl) nIs boot_isinstance (pa_cons (pv 0) (pa_cons (pe_glob (v := .ref (He.ga K "NoProcedure")) (by rfl) (S.e "NoProcedure" ["name"] (by decide +kernel)).g rfl) pa_nil))) pa_nil)))))))
      (pss_cons (ps_set (i := 1) sc_kinds.nd rfl (by walk_at "lv") (pe_op op_cat (pv 1) (pe_lst (pa_cons (pe_callB (call_isx DD.g DD.t) (by rfl) nIs boot_isinstance (pa_cons (pv 0) (pa_cons (pe_glob (v := .ref (He.ga K "BadPlace")) (by rfl) (S.e "BadPlace" [] (by decide +kernel)).g rfl) pa_nil))) (pa_cons (pe_callB (call_isx DD.g DD.t) (by rfl) nIs boot_isinstance (pa_cons (pv 0) (pa_cons (pe_glob (v := .ref (He.ga K "BadChoices")) (by rfl) (S.e "BadChoices" ["at"] (by decide +kernel)).g rfl) pa_nil))) (pa_cons (pe_callB (call_isx DD.g DD.t) (by rfl) nIs boot_isinstance (pa_cons (pv 0) (pa_cons (pe_glob (v := .ref (He.ga K "BadFuel")) (by rfl) (S.e "BadFuel" [] (by decide +kernel)).g rfl) pa_nil))) (pa_cons (pe_callB (call_isx DD.g DD.t) (by rfl) nIs boot_isinstance (pa_cons (pv 0) (pa_cons (pe_glob (v := .ref (He.ga K "BadMost")) (by rfl) (S.e "BadMost" [] (by decide +kernel)).g rfl) pa_nil))) pa_nil)))))))
      (pss_cons (ps_set (i := 1) sc_kinds.nd rfl (by walk_at "lv") (pe_op op_cat (pv 1) (pe_lst (pa_cons (pe_callB (call_isx DD.g DD.t) (by rfl) nIs boot_isinstance (pa_cons (pv 0) (pa_cons (pe_glob (v := .ref (He.ga K "TooMany")) (by rfl) (S.e "TooMany" ["most"] (by decide +kernel)).g rfl) pa_nil))) (pa_cons (pe_callB (call_isx DD.g DD.t) (by rfl) nIs boot_isinstance (pa_cons (pv 0) (pa_cons (pe_glob (v := .ref (He.ga K "BadStep")) (by rfl) (S.e "BadStep" [] (by decide +kernel)).g rfl) pa_nil))) (pa_cons (pe_callB (call_isx DD.g DD.t) (by rfl) nIs boot_isinstance (pa_cons (pv 0) (pa_cons (pe_glob (v := .ref (He.ga K "OtherAlphabet")) (by rfl) (S.e "OtherAlphabet" [] (by decide +kernel)).g rfl) pa_nil))) (pa_cons (pe_callB (call_isx DD.g DD.t) (by rfl) nIs boot_isinstance (pa_cons (pv 0) (pa_cons (pe_glob (v := .ref (He.ga K "BadEntry")) (by rfl) (S.e "BadEntry" [] (by decide +kernel)).g rfl) pa_nil))) pa_nil)))))))
      (pss_cons (ps_set (i := 1) sc_kinds.nd rfl (by walk_at "lv") (pe_op op_cat (pv 1) (pe_lst (pa_cons (pe_callB (call_isx DD.g DD.t) (by rfl) nIs boot_isinstance (pa_cons (pv 0) (pa_cons (pe_glob (v := .ref (He.ga K "BadResults")) (by rfl) (S.e "BadResults" [] (by decide +kernel)).g rfl) pa_nil))) (pa_cons (pe_callB (call_isx DD.g DD.t) (by rfl) nIs boot_isinstance (pa_cons (pv 0) (pa_cons (pe_glob (v := .ref (He.ga K "BadOrder")) (by rfl) (S.e "BadOrder" [] (by decide +kernel)).g rfl) pa_nil))) (pa_cons (pe_callB (call_isx DD.g DD.t) (by rfl) nIs boot_isinstance (pa_cons (pv 0) (pa_cons (pe_glob (v := .ref (He.ga K "BadPicks")) (by rfl) (S.e "BadPicks" [] (by decide +kernel)).g rfl) pa_nil))) (pa_cons (pe_callB (call_isx DD.g DD.t) (by rfl) nIs boot_isinstance (pa_cons (pv 0) (pa_cons (pe_glob (v := .ref (He.ga K "BadTreatment")) (by rfl) (S.e "BadTreatment" [] (by decide +kernel)).g rfl) pa_nil))) pa_nil)))))))
      (pss_cons (ps_set (i := 1) sc_kinds.nd rfl (by walk_at "lv") (pe_op op_cat (pv 1) (pe_lst (pa_cons (pe_callB (call_isx DD.g DD.t) (by rfl) nIs boot_isinstance (pa_cons (pv 0) (pa_cons (pe_glob (v := .ref (He.ga K "BadCalls")) (by rfl) (S.e "BadCalls" ["at"] (by decide +kernel)).g rfl) pa_nil))) (pa_cons (pe_callB (call_isx DD.g DD.t) (by rfl) nIs boot_isinstance (pa_cons (pv 0) (pa_cons (pe_glob (v := .ref (He.ga K "BadUnit")) (by rfl) (S.e "BadUnit" ["at"] (by decide +kernel)).g rfl) pa_nil))) (pa_cons (pe_callB (call_isx DD.g DD.t) (by rfl) nIs boot_isinstance (pa_cons (pv 0) (pa_cons (pe_glob (v := .ref (He.ga K "BadEdit")) (by rfl) (S.e "BadEdit" ["at", "what"] (by decide +kernel)).g rfl) pa_nil))) (pa_cons (pe_callB (call_isx DD.g DD.t) (by rfl) nIs boot_isinstance (pa_cons (pv 0) (pa_cons (pe_glob (v := .ref (He.ga K "NothingBack")) (by rfl) (S.e "NothingBack" [] (by decide +kernel)).g rfl) pa_nil))) pa_nil)))))))
      (pss_cons (ps_set (i := 1) sc_kinds.nd rfl (by walk_at "lv") (pe_op op_cat (pv 1) (pe_lst (pa_cons (pe_callB (call_isx DD.g DD.t) (by rfl) nIs boot_isinstance (pa_cons (pv 0) (pa_cons (pe_glob (v := .ref (He.ga K "TooLarge")) (by rfl) (S.e "TooLarge" ["most"] (by decide +kernel)).g rfl) pa_nil))) (pa_cons (pe_callB (call_isx DD.g DD.t) (by rfl) nIs boot_isinstance (pa_cons (pv 0) (pa_cons (pe_glob (v := .ref (He.ga K "NotTold")) (by rfl) (S.e "NotTold" ["word"] (by decide +kernel)).g rfl) pa_nil))) (pa_cons (pe_callB (call_isx DD.g DD.t) (by rfl) nIs boot_isinstance (pa_cons (pv 0) (pa_cons (pe_glob (v := .ref (He.ga K "NoCouple")) (by rfl) (S.e "NoCouple" [] (by decide +kernel)).g rfl) pa_nil))) (pa_cons (pe_callB (call_isx DD.g DD.t) (by rfl) nIs boot_isinstance (pa_cons (pv 0) (pa_cons (pe_glob (v := .ref (He.ga K "BadSteps")) (by rfl) (S.e "BadSteps" ["at"] (by decide +kernel)).g rfl) pa_nil))) pa_nil)))))))
      (pss_cons (ps_set (i := 1) sc_kinds.nd rfl (by walk_at "lv") (pe_op op_cat (pv 1) (pe_lst (pa_cons (pe_callB (call_isx DD.g DD.t) (by rfl) nIs boot_isinstance (pa_cons (pv 0) (pa_cons (pe_glob (v := .ref (He.ga K "StillLies")) (by rfl) (S.e "StillLies" [] (by decide +kernel)).g rfl) pa_nil))) (pa_cons (pe_callB (call_isx DD.g DD.t) (by rfl) nIs boot_isinstance (pa_cons (pv 0) (pa_cons (pe_glob (v := .ref (He.ga K "NoLeast")) (by rfl) (S.e "NoLeast" ["step", "word"] (by decide +kernel)).g rfl) pa_nil))) (pa_cons (pe_callB (call_isx DD.g DD.t) (by rfl) nIs boot_isinstance (pa_cons (pv 0) (pa_cons (pe_glob (v := .ref (He.ga K "BadPool")) (by rfl) (S.e "BadPool" ["at"] (by decide +kernel)).g rfl) pa_nil))) (pa_cons (pe_callB (call_isx DD.g DD.t) (by rfl) nIs boot_isinstance (pa_cons (pv 0) (pa_cons (pe_glob (v := .ref (He.ga K "Unfit")) (by rfl) (S.e "Unfit" ["what"] (by decide +kernel)).g rfl) pa_nil))) pa_nil)))))))
      (pss_cons (ps_set (i := 1) sc_kinds.nd rfl (by walk_at "lv") (pe_op op_cat (pv 1) (pe_lst (pa_cons (pe_callB (call_isx DD.g DD.t) (by rfl) nIs boot_isinstance (pa_cons (pv 0) (pa_cons (pe_glob (v := .ref (He.ga K "NoNeed")) (by rfl) (S.e "NoNeed" ["place"] (by decide +kernel)).g rfl) pa_nil))) (pa_cons (pe_callB (call_isx DD.g DD.t) (by rfl) nIs boot_isinstance (pa_cons (pv 0) (pa_cons (pe_glob (v := .ref (He.ga K "NoAlarm")) (by rfl) (S.e "NoAlarm" ["place"] (by decide +kernel)).g rfl) pa_nil))) (pa_cons (pe_callB (call_isx DD.g DD.t) (by rfl) nIs boot_isinstance (pa_cons (pv 0) (pa_cons (pe_glob (v := .ref (He.ga K "BadDeed")) (by rfl) (S.e "BadDeed" [] (by decide +kernel)).g rfl) pa_nil))) (pa_cons (pe_callB (call_isx DD.g DD.t) (by rfl) nIs boot_isinstance (pa_cons (pv 0) (pa_cons (pe_glob (v := .ref (He.ga K "BadStory")) (by rfl) (S.e "BadStory" ["at"] (by decide +kernel)).g rfl) pa_nil))) pa_nil)))))))
      (pss_one (ps_ret (pe_op op_cat (pv 1) (pe_lst (pa_cons (pe_callB (call_isx DD.g DD.t) (by rfl) nIs boot_isinstance (pa_cons (pv 0) (pa_cons (pe_glob (v := .ref (He.ga K "BadStoryText")) (by rfl) (S.e "BadStoryText" ["line"] (by decide +kernel)).g rfl) pa_nil))) pa_nil)))))))))))))))), ?_⟩
    have kx : ExKnown H [p] (He.ga K x) p.1 := .inr ⟨p.2, List.mem_singleton.mpr rfl, e1, e2, e3⟩
    refine kst_new kx (kc S B ex (show errs[0]? = some _ from rfl) (by decide +kernel) (kc S B ex (show errs[1]? = some _ from rfl) (by decide +kernel) (kc S B ex (show errs[2]? = some _ from rfl) (by decide +kernel) (kc S B ex (show errs[3]? = some _ from rfl) (by decide +kernel) kn)))) (by decide) fun p0 H0 s0 e0 => ?_
    refine kst_more kx s0 e0 (kc S B ex (show errs[4]? = some _ from rfl) (by decide +kernel) (kc S B ex (show errs[5]? = some _ from rfl) (by decide +kernel) (kc S B ex (show errs[6]? = some _ from rfl) (by decide +kernel) (kc S B ex (show errs[7]? = some _ from rfl) (by decide +kernel) kn)))) (by decide) fun p1 H1 s1 e1 => ?_
    refine kst_more kx s1 e1 (kc S B ex (show errs[8]? = some _ from rfl) (by decide +kernel) (kc S B ex (show errs[9]? = some _ from rfl) (by decide +kernel) (kc S B ex (show errs[10]? = some _ from rfl) (by decide +kernel) (kc S B ex (show errs[11]? = some _ from rfl) (by decide +kernel) kn)))) (by decide) fun p2 H2 s2 e2 => ?_
    refine kst_more kx s2 e2 (kc S B ex (show errs[12]? = some _ from rfl) (by decide +kernel) (kc S B ex (show errs[13]? = some _ from rfl) (by decide +kernel) (kc S B ex (show errs[14]? = some _ from rfl) (by decide +kernel) (kc S B ex (show errs[15]? = some _ from rfl) (by decide +kernel) kn)))) (by decide) fun p3 H3 s3 e3 => ?_
    refine kst_more kx s3 e3 (kc S B ex (show errs[16]? = some _ from rfl) (by decide +kernel) (kc S B ex (show errs[17]? = some _ from rfl) (by decide +kernel) (kc S B ex (show errs[18]? = some _ from rfl) (by decide +kernel) (kc S B ex (show errs[19]? = some _ from rfl) (by decide +kernel) kn)))) (by decide) fun p4 H4 s4 e4 => ?_
    refine kst_more kx s4 e4 (kc S B ex (show errs[20]? = some _ from rfl) (by decide +kernel) (kc S B ex (show errs[21]? = some _ from rfl) (by decide +kernel) (kc S B ex (show errs[22]? = some _ from rfl) (by decide +kernel) (kc S B ex (show errs[23]? = some _ from rfl) (by decide +kernel) kn)))) (by decide) fun p5 H5 s5 e5 => ?_
    refine kst_more kx s5 e5 (kc S B ex (show errs[24]? = some _ from rfl) (by decide +kernel) (kc S B ex (show errs[25]? = some _ from rfl) (by decide +kernel) (kc S B ex (show errs[26]? = some _ from rfl) (by decide +kernel) (kc S B ex (show errs[27]? = some _ from rfl) (by decide +kernel) kn)))) (by decide) fun p6 H6 s6 e6 => ?_
    refine kst_more kx s6 e6 (kc S B ex (show errs[28]? = some _ from rfl) (by decide +kernel) (kc S B ex (show errs[29]? = some _ from rfl) (by decide +kernel) (kc S B ex (show errs[30]? = some _ from rfl) (by decide +kernel) (kc S B ex (show errs[31]? = some _ from rfl) (by decide +kernel) kn)))) (by decide) fun p7 H7 s7 e7 => ?_
    refine kst_more kx s7 e7 (kc S B ex (show errs[32]? = some _ from rfl) (by decide +kernel) (kc S B ex (show errs[33]? = some _ from rfl) (by decide +kernel) (kc S B ex (show errs[34]? = some _ from rfl) (by decide +kernel) (kc S B ex (show errs[35]? = some _ from rfl) (by decide +kernel) kn)))) (by decide) fun p8 H8 s8 e8 => ?_
    refine kst_more kx s8 e8 (kc S B ex (show errs[36]? = some _ from rfl) (by decide +kernel) (kc S B ex (show errs[37]? = some _ from rfl) (by decide +kernel) (kc S B ex (show errs[38]? = some _ from rfl) (by decide +kernel) (kc S B ex (show errs[39]? = some _ from rfl) (by decide +kernel) kn)))) (by decide) fun p9 H9 s9 e9 => ?_
    refine kst_more kx s9 e9 (kc S B ex (show errs[40]? = some _ from rfl) (by decide +kernel) (kc S B ex (show errs[41]? = some _ from rfl) (by decide +kernel) (kc S B ex (show errs[42]? = some _ from rfl) (by decide +kernel) (kc S B ex (show errs[43]? = some _ from rfl) (by decide +kernel) kn)))) (by decide) fun p10 H10 s10 e10 => ?_
    exact kcat rfl kx s10 e10 (kc S B ex (show errs[44]? = some _ from rfl) (by decide +kernel) kn) (by decide) fun p11 H11 s11 e11 => k _ _ s11 e11
end
end My

namespace My
open PySem PySem.Spec PyProof.Rows L2
local macro_rules | `(tactic| walk_at "lv") => `(tactic| first | exact Or.inl rfl | exact Or.inr rfl)
/-! ### _law_drawn_thing -/
/-- what is drawn: a flat thing, or a tuple of flat things -/
def flat1 : V → Option PyData
  | .non => some .none
  | .int i => some (.int i)
  | .str z => if PyData.strOk z = true then some (.str z) else none
  | _ => none
def Thing (H : Hp) (v : V) : Prop := (∃ d, flat1 v = some d) ∨ ∃ t ys ds, v = .ref t ∧ H t = some (.tup ys) ∧ Paired (fun y d => flat1 y = some d) ys ds
theorem Thing.but {H H' : Hp} {v : V} {p : Addr} (hp : HandAt H p) (s : But p H H') (h : Thing H v) : Thing H' v := by
  rcases h with h | ⟨t, ys, ds, rfl, e, k⟩
  · exact .inl h
  · refine .inr ⟨t, ys, ds, rfl, s t _ ?_ e, k⟩
    obtain ⟨c, cs, i, r, tt, e2, _⟩ := hp
    intro z
    rw [z, e2] at e
    cases e
theorem Thing.same {H H' : Hp} {v : V} (s : Same H H') (h : Thing H v) : Thing H' v := by
  rcases h with h | ⟨t, ys, ds, rfl, e, k⟩
  · exact .inl h
  · exact .inr ⟨t, ys, ds, rfl, s t _ e, k⟩
theorem HandAt.same {H H' : Hp} {p : Addr} (s : Same H H') (h : HandAt H p) : HandAt H' p := by
  obtain ⟨c, cs, i, r, tt, e1, e2, e3⟩ := h
  exact ⟨c, cs, i, r, tt, s _ _ e1, s _ _ e2, e3⟩
theorem flat1_dp {K : PySem.W.Frag} {H : Hp} {v : V} {d : PyData} (h : flat1 v = some d) : Dp K H v d ∧ d.canLay0 = true ∧ d.depth = 0 := by
  cases v with
  | non =>
    cases h
    exact ⟨.non, rfl, rfl⟩
  | int i =>
    cases h
    exact ⟨.int i, rfl, rfl⟩
  | str z =>
    have h2 : (if PyData.strOk z = true then some (PyData.str z) else none) = some d := h
    split at h2
    · rename_i q
      cases h2
      exact ⟨.str z, q, rfl⟩
    · cases h2
  | _ => cases h
theorem flats_dp {K : PySem.W.Frag} {H : Hp} : ∀ {ys : List V} {ds : List PyData}, Paired (fun y d => flat1 y = some d) ys ds → DpAll K H ys ds ∧ PyData.canLayAll0 ds = true ∧ PyData.depthAll ds = 0
  | _, _, .nil => ⟨.nil, rfl, rfl⟩
  | _, _, .cons h t => by
    obtain ⟨h1, h2, h3⟩ := flat1_dp (K := K) (H := H) h
    obtain ⟨t1, t2, t3⟩ := flats_dp (K := K) (H := H) t
    refine ⟨.cons h1 t1, ?_, ?_⟩
    · show (_ && _) = true
      rw [h2, t2]
      rfl
    · show max _ _ = 0
      rw [h3, t3]
      rfl
theorem Thing.dp {K : PySem.W.Frag} {H : Hp} {v : V} (h : Thing H v) : ∃ d, Dp K H v d ∧ d.canLay0 = true ∧ d.depth ≤ 1 := by
  rcases h with ⟨d, h⟩ | ⟨t, ys, ds, rfl, e, k⟩
  · obtain ⟨h1, h2, h3⟩ := flat1_dp (K := K) (H := H) h
    exact ⟨d, h1, h2, by omega⟩
  · obtain ⟨h1, h2, h3⟩ := flats_dp (K := K) (H := H) k
    refine ⟨.tuple ds, .tup (SqT.of e) h1, h2, ?_⟩
    show PyData.depthAll ds + 1 ≤ 1
    omega
theorem things_dp {K : PySem.W.Frag} {H : Hp} : ∀ {vs : List V}, (∀ v ∈ vs, Thing H v) → ∃ ds, DpAll K H vs ds ∧ PyData.canLayAll0 ds = true ∧ PyData.depthAll ds ≤ 1
  | [], _ => ⟨[], .nil, rfl, Nat.zero_le _⟩
  | v :: vs, h => by
    obtain ⟨d, h1, h2, h3⟩ := (h v List.mem_cons_self).dp (K := K)
    obtain ⟨ds, t1, t2, t3⟩ := things_dp (K := K) (vs := vs) fun u hu => h u (List.mem_cons_of_mem _ hu)
    refine ⟨d :: ds, .cons h1 t1, ?_, ?_⟩
    · show (_ && _) = true
      rw [h2, t2]
      rfl
    · show max _ _ ≤ 1
      omega
theorem strOk_of (s : String) : PyData.strOk (Str.ofString s) = true := by
  rw [Str.ofString_eq_toList]
  unfold PyData.strOk
  rw [Array.all_eq_true']
  intro c hc
  obtain ⟨k, _, rfl⟩ := List.mem_map.mp (by simpa using hc)
  have h := k.valid
  refine decide_eq_true ?_
  unfold Char.toNat
  rcases h with h | h
  · exact Nat.lt_trans h (by decide)
  · exact h.2
def spThing : Sp := fun vs H Q _ => ∃ p, vs = [.ref p] ∧ HandAt H p ∧ ∀ v H', HandAt H' p → But p H H' → Thing H' v → Q v H'
abbrev s_thing : Stmt := top 54
abbrev N_thing : List Str := ["_law_hand_here", "_law_number"]
theorem sc_thing : FnScope N_thing ["_law_hand_here"] (defScope s_thing) := ⟨rfl, rfl, rfl, by decide +kernel, rfl, by decide +kernel, by decide +kernel⟩
theorem But.of {p : Addr} {H H' : Hp} (s : Same H H') : But p H H' := fun b o _ e => s b o e
theorem But.trans {p : Addr} {H H1 H2 : Hp} (a : But p H H1) (b : But p H1 H2) : But p H H2 := fun c o hc e => b c o hc (a c o hc e)
section
variable {P : Program} {w : World} {K : PySem.W.Frag} {mg : Str → Option Value} {base : Heap}
theorem kp_thing (F : At K mg "_law_drawn_thing" s_thing) (GD : Keeps CX0 P w K mg base "_law_draw" 2 ["_law_hand_here", "_law_many"] spDraw) (nS : mg "str" = none) : Keeps CX0 P w K mg base "_law_drawn_thing" 3 ["_law_hand_here"] spThing := by
  refine keeps_of F sc_thing (fun _ _ _ _ _ _ us hl => match us, hl with | [_], _ => rfl) (fun vs H Q E h => ?_) (fun f cdv A outer s H vs Q E hr h => ?_)
  · obtain ⟨p, rfl, _⟩ := h
    rfl
  · obtain ⟨p, rfl, hp, k⟩ := h
    refine ⟨_, (pss_cons (ps_set (i := 1) sc_thing.nd rfl (by walk_at "lv") (pe_op op_sub (pe_k GD hr (by rfl) pass0 (pa_cons (pv 0) (pa_cons (pe_op op_pow pe_int pe_int) pa_nil))) (pe_op op_pow pe_int pe_int)))
        (pss_one (ps_ret (pe_ix ix_tup (pe_tup (pa_cons (pv 1) (pa_cons pe_str (pa_cons pe_non (pa_cons (pe_tup (pa_cons (pv 1) (pa_cons pe_str pa_nil))) (pa_cons (pe_callTy call_str_int (by rfl) nS boot_str (pa_cons (pv 1) pa_nil)) (pa_cons (pe_un un_neg pe_int) (pa_cons (pe_tup (pa_cons pe_str pa_nil)) pa_nil)))))))) (pe_k GD hr (by rfl) pass0 (pa_cons (pv 0) (pa_cons pe_int pa_nil))) (fun _ _ => rfl))))), ?_⟩
    refine ⟨_, rfl, _, _, rfl, rfl, ⟨by decide, by decide, by decide⟩, p, _, rfl, hp, ⟨by decide, by decide +kernel⟩, fun r H1 hr0 hr1 h1 b1 => ?_⟩
    have hr1 : r < 1000000000 := hr1
    refine ⟨_, _, rfl, rfl, ⟨by decide, by decide, by decide⟩, _, _, rfl, rfl, ?_⟩
    have e8 : (10 : Int) ^ (8 : Int).toNat = 100000000 := by decide
    rw [e8]
    have hlog : (r - 100000000).natAbs.log2 < 1920 := Nat.lt_trans (PySem.Flt.log2_lt_of (k := 30) (by decide) (by omega)) (by decide)
    refine ⟨_, rfl, _, rfl, (by show 2 ≤ sizeLine; decide), fun t1 nt1 => ?_⟩
    refine ⟨_, rfl, _, rfl, hlog, _, rfl, (by show 1 ≤ sizeLine; decide), fun t2 nt2 => ⟨(by show 7 ≤ sizeLine; decide), fun t3 nt3 => ?_⟩⟩
    have s1 : Same H1 (upd H1 t1 (.tup [V.int (r - 100000000), V.str "deed"])) := same_new (Same.refl H1) nt1
    have s2 : Same _ (upd (upd H1 t1 (.tup [V.int (r - 100000000), V.str "deed"])) t2 (.tup [V.str "first"])) := same_new (Same.refl _) nt2
    have s3 : Same _ (upd (upd (upd H1 t1 (.tup [V.int (r - 100000000), V.str "deed"])) t2 (.tup [V.str "first"])) t3 (.tup [V.int (r - 100000000), .str "line", .non, .ref t1, .str (toString (r - 100000000)), .int (-1), .ref t2])) := same_new (Same.refl _) nt3
    have s13 := (s1.trans s2).trans s3
    refine ⟨_, rfl, p, _, rfl, h1.same s13, ⟨by decide, by decide⟩, fun q H2 q0 q1 h2 b2 => ?_⟩
    have e3 : H2 t3 = some (.tup [V.int (r - 100000000), .str "line", .non, .ref t1, .str (toString (r - 100000000)), .int (-1), .ref t2]) := b2 _ _ (by
      intro z
      have y := (h1.same (s1.trans s2)).ne
      rw [← z] at y
      exact y nt3) upd_same
    have e1 : H2 t1 = some (.tup [V.int (r - 100000000), V.str "deed"]) := b2 _ _ (by
      intro z
      have y := h1.ne
      rw [← z] at y
      exact y nt1) (s3 _ _ (s2 _ _ upd_same))
    have e2 : H2 t2 = some (.tup [V.str "first"]) := b2 _ _ (by
      intro z
      have y := (h1.same s1).ne
      rw [← z] at y
      exact y nt2) (s3 _ _ upd_same)
    have bb : But p H H2 := (b1.trans (But.of s13)).trans b2
    have so : ∀ z : String, flat1 (.str z) = some (.str z) := fun z => if_pos (strOk_of z)
    have hq : q = 0 ∨ q = 1 ∨ q = 2 ∨ q = 3 ∨ q = 4 ∨ q = 5 ∨ q = 6 := by omega
    rcases hq with rfl | rfl | rfl | rfl | rfl | rfl | rfl
    · exact ⟨t3, _, _, _, rfl, rfl, SqT.of e3, rfl, k _ _ h2 bb (.inl ⟨_, rfl⟩)⟩
    · exact ⟨t3, _, _, _, rfl, rfl, SqT.of e3, rfl, k _ _ h2 bb (.inl ⟨_, so _⟩)⟩
    · exact ⟨t3, _, _, _, rfl, rfl, SqT.of e3, rfl, k _ _ h2 bb (.inl ⟨_, rfl⟩)⟩
    · exact ⟨t3, _, _, _, rfl, rfl, SqT.of e3, rfl, k _ _ h2 bb (.inr ⟨t1, _, _, rfl, e1, .cons rfl (.cons (so _) .nil)⟩)⟩
    · exact ⟨t3, _, _, _, rfl, rfl, SqT.of e3, rfl, k _ _ h2 bb (.inl ⟨_, so _⟩)⟩
    · exact ⟨t3, _, _, _, rfl, rfl, SqT.of e3, rfl, k _ _ h2 bb (.inl ⟨_, rfl⟩)⟩
    · exact ⟨t3, _, _, _, rfl, rfl, SqT.of e3, rfl, k _ _ h2 bb (.inr ⟨t2, _, _, rfl, e2, .cons (so _) .nil⟩)⟩
end
end My

namespace My
open PySem PySem.Spec PyProof.Rows L2
local macro_rules | `(tactic| walk_at "lv") => `(tactic| first | exact Or.inl rfl | exact Or.inr rfl)
/-! ### _law_attributes -/
/-- a pair of a number and the first n of the three things -/
def PairAt (va vb vc : V) (H : Hp) (v : V) : Prop := ∃ (t tl : Addr) (k : Int) (n : Nat), v = .ref t ∧ H t = some (.tup [.int k, .ref tl]) ∧ H tl = some (.lst ([va, vb, vc].take n)) ∧ n ≤ 3
theorem PairAt.same {va vb vc : V} {H H' : Hp} {v : V} (s : Same H H') (h : PairAt va vb vc H v) : PairAt va vb vc H' v := by
  obtain ⟨t, tl, k, n, rfl, e1, e2, e3⟩ := h
  exact ⟨t, tl, k, n, rfl, s _ _ e1, s _ _ e2, e3⟩
section
variable {P : Program} {w : World} {K : PySem.W.Frag} {mg : Str → Option Value} {base : Heap} {va vb vc : V} {l : Addr} {xs : List V}
theorem errs_get {H : Hp} : ∀ {xs : List V} {is : List Nat} {k i : Nat}, ErrsAt K [va, vb, vc] H xs is → is[k]? = some i → ∃ v, xs[k]? = some v ∧ ErrAt K [va, vb, vc] H v i
  | _, _, _, _, .nil, h => by simp at h
  | _, _, 0, _, .cons h t, e => by
    simp at e
    subst e
    exact ⟨_, rfl, h⟩
  | _, _, k + 1, _, .cons h t, e => by
    obtain ⟨v, e1, e2⟩ := errs_get (k := k) t (by simpa using e)
    exact ⟨v, by simpa using e1, e2⟩
/-- e[j].f -/
theorem xat_ok {σ : L2.St} {H : Hp} {Q : VK} {j : Nat} {x f : Str} {gs : List Str} {u : V} (S : Src P w K mg base) (h0 : σ[0]? = some (some (.ref l))) (el : H l = some (.lst xs)) (es : ErrsAt K [va, vb, vc] H xs (List.range 45)) (ex : errs[j]? = some (x, gs)) (hf : f ∈ gs)
    (hu : ((gs.zip [va, vb, vc]).reverse).lookup f = some u) (q : Q u H) : tXat K mg f (tOp (rIxL K) (tVar 0) (tC (.int (j : Nat)))) σ H Q := by
  have hj := lt_errs ex
  obtain ⟨v, ev, e2⟩ := errs_get (k := j) (i := j) es (by rw [List.getElem?_range hj])
  obtain ⟨a, y, fs, rfl, ey, hy⟩ := e2
  rw [ex] at ey
  cases ey
  refine ⟨_, h0, l, xs, _, _, rfl, rfl, SqL.of el, atI_nat ev, ?_⟩
  rcases hy with ⟨z, _⟩ | ⟨_, d, e3, e4⟩
  · rw [z] at hf
    cases hf
  · exact ⟨a, d, x, _, gs, _, u, rfl, S.e x gs (List.mem_of_getElem? ex), hf, e3, e4, hu, q⟩
def MkP (K : PySem.W.Frag) (va vb vc : V) (l : Addr) (xs : List V) (te : TE) : Prop := ∀ (σ : L2.St) (H : Hp) (Q : VK), σ[0]? = some (some (.ref l)) → H l = some (.lst xs) → ErrsAt K [va, vb, vc] H xs (List.range 45) → (∀ v H', Same H H' → PairAt va vb vc H' v → Q v H') → te σ H Q
def MkPs (K : PySem.W.Frag) (va vb vc : V) (l : Addr) (xs : List V) (ta : TA) (n : Nat) : Prop := ∀ (σ : L2.St) (H : Hp) (Q : List V → Hp → Prop), σ[0]? = some (some (.ref l)) → H l = some (.lst xs) → ErrsAt K [va, vb, vc] H xs (List.range 45) →
  (∀ vs H', Same H H' → vs.length = n → (∀ v ∈ vs, PairAt va vb vc H' v) → Q vs H') → ta σ H Q
theorem pn0 : MkPs K va vb vc l xs tNil 0 := fun σ H Q _ _ _ k => k [] H (Same.refl H) rfl (fun v hv => nomatch hv)
theorem pc {te : TE} {ta : TA} {n : Nat} (h : MkP K va vb vc l xs te) (t : MkPs K va vb vc l xs ta n) : MkPs K va vb vc l xs (tCons te ta) (n + 1) := fun σ H Q h0 el es k =>
  h σ H _ h0 el es fun v H1 s1 e1 => t σ H1 _ h0 (s1 _ _ el) (es.same s1) fun vs H2 s2 e2 q2 => k (v :: vs) H2 (s1.trans s2) (by rw [List.length_cons, e2]) fun u hu => by
    rcases List.mem_cons.mp hu with z | z
    · rw [z]
      exact e1.same s2
    · exact q2 u z
/-- the pair's list -/
def MkA (K : PySem.W.Frag) (va vb vc : V) (l : Addr) (xs : List V) (ta : TA) (n : Nat) : Prop := ∀ (σ : L2.St) (H : Hp) (Q : List V → Hp → Prop), σ[0]? = some (some (.ref l)) → H l = some (.lst xs) → ErrsAt K [va, vb, vc] H xs (List.range 45) → Q ([va, vb, vc].take n) H → ta σ H Q
theorem pp {ta : TA} {k : Int} {n : Nat} (hn : n ≤ 3) (h : MkA K va vb vc l xs ta n) : MkP K va vb vc l xs (tTup (tCons (tC (.int k)) (tCons (tLst ta) tNil))) := fun σ H Q h0 el es q =>
  h σ H _ h0 el es ⟨by rw [List.length_take]; exact Nat.le_trans (Nat.min_le_left _ _) (Nat.le_trans hn (by decide)), fun p hp => ⟨(by show 2 ≤ sizeLine; decide), fun t ht => by
    have s1 := same_new (o := .lst ([va, vb, vc].take n)) (Same.refl H) hp
    have s2 := same_new (o := .tup [V.int k, V.ref p]) (Same.refl _) ht
    exact q _ _ (s1.trans s2) ⟨t, p, k, n, rfl, upd_same, s2 _ _ upd_same, hn⟩⟩⟩
theorem pa1 {j : Nat} {x f : Str} {gs : List Str} (S : Src P w K mg base) (ex : errs[j]? = some (x, gs)) (hf : f ∈ gs) (hu : ((gs.zip [va, vb, vc]).reverse).lookup f = some va) :
    MkA K va vb vc l xs (tCons (tXat K mg f (tOp (rIxL K) (tVar 0) (tC (.int (j : Nat))))) tNil) 1 := fun σ H Q h0 el es q => xat_ok S h0 el es ex hf hu q
theorem pa2 {j : Nat} {x f g : Str} {gs : List Str} (S : Src P w K mg base) (ex : errs[j]? = some (x, gs)) (hf : f ∈ gs) (hg : g ∈ gs) (hu : ((gs.zip [va, vb, vc]).reverse).lookup f = some va) (hv : ((gs.zip [va, vb, vc]).reverse).lookup g = some vb) :
    MkA K va vb vc l xs (tCons (tXat K mg f (tOp (rIxL K) (tVar 0) (tC (.int (j : Nat))))) (tCons (tXat K mg g (tOp (rIxL K) (tVar 0) (tC (.int (j : Nat))))) tNil)) 2 := fun σ H Q h0 el es q => xat_ok S h0 el es ex hf hu (xat_ok S h0 el es ex hg hv q)
theorem pa3 {j : Nat} {x f g k : Str} {gs : List Str} (S : Src P w K mg base) (ex : errs[j]? = some (x, gs)) (hf : f ∈ gs) (hg : g ∈ gs) (hk : k ∈ gs) (hu : ((gs.zip [va, vb, vc]).reverse).lookup f = some va) (hv : ((gs.zip [va, vb, vc]).reverse).lookup g = some vb)
    (hw : ((gs.zip [va, vb, vc]).reverse).lookup k = some vc) :
    MkA K va vb vc l xs (tCons (tXat K mg f (tOp (rIxL K) (tVar 0) (tC (.int (j : Nat))))) (tCons (tXat K mg g (tOp (rIxL K) (tVar 0) (tC (.int (j : Nat))))) (tCons (tXat K mg k (tOp (rIxL K) (tVar 0) (tC (.int (j : Nat))))) tNil))) 3 :=
  fun σ H Q h0 el es q => xat_ok S h0 el es ex hf hu (xat_ok S h0 el es ex hg hv (xat_ok S h0 el es ex hk hw q))
theorem pst_new {ta : TA} {n : Nat} {D : Ends} {H : Hp} {o : Option V} (el : H l = some (.lst xs)) (es : ErrsAt K [va, vb, vc] H xs (List.range 45)) (h : MkPs K va vb vc l xs ta n) (hl : n ≤ 100)
    (k : ∀ p vs H', Same H H' → H' p = some (.lst vs) → vs.length = n → (∀ v ∈ vs, PairAt va vb vc H' v) → D.nx [some (.ref l), some (.ref p)] H') : tAsg (tLst ta) (gName 1) D [some (.ref l), o] H :=
  h _ H _ rfl el es fun vs H1 s1 e1 q1 => ⟨by rw [e1]; exact Nat.le_trans hl (by decide), fun p hp => k p vs _ (same_new s1 hp) upd_same e1 fun v hv => (q1 v hv).same (same_new (Same.refl H1) hp)⟩
theorem pcat {ta : TA} {n m : Nat} {Q : VK} {H H0 : Hp} {p : Addr} {us : List V} {σ : L2.St} (hs : σ = [some (.ref l), some (.ref p)]) (el : H0 l = some (.lst xs)) (es : ErrsAt K [va, vb, vc] H0 xs (List.range 45)) (s0 : Same H0 H) (ep : H p = some (.lst us)) (en : us.length = n)
    (eu : ∀ v ∈ us, PairAt va vb vc H v) (h : MkPs K va vb vc l xs ta m) (hl : n + m ≤ 100) (k : ∀ p vs H', Same H0 H' → H' p = some (.lst vs) → vs.length = n + m → (∀ v ∈ vs, PairAt va vb vc H' v) → Q (.ref p) H') : tOp rCat (tVar 1) (tLst ta) σ H Q := by
  subst hs
  refine ⟨_, rfl, h _ H _ rfl (s0 _ _ el) (es.same s0) fun vs H1 s1 e1 q1 => ⟨by rw [e1]; exact Nat.le_trans (by omega : m ≤ 100) (by decide), fun q hq => ?_⟩⟩
  have s2 := same_new (o := .lst vs) (Same.refl H1) hq
  refine ⟨p, q, us, vs, rfl, rfl, s2 _ _ (s1 _ _ ep), upd_same, by rw [en, e1]; exact Nat.le_trans hl (by decide), fun r hr => ?_⟩
  have s3 := same_new (o := .lst (us ++ vs)) (Same.refl _) hr
  refine k r _ _ (((s0.trans s1).trans s2).trans s3) upd_same (by rw [List.length_append, en, e1]) fun v hv => ?_
  rcases List.mem_append.mp hv with z | z
  · exact (eu v z).same ((s1.trans s2).trans s3)
  · exact (q1 v z).same (s2.trans s3)
theorem pst_more {ta : TA} {n m : Nat} {D : Ends} {H H0 : Hp} {p : Addr} {us : List V} (el : H0 l = some (.lst xs)) (es : ErrsAt K [va, vb, vc] H0 xs (List.range 45)) (s0 : Same H0 H) (ep : H p = some (.lst us)) (en : us.length = n)
    (eu : ∀ v ∈ us, PairAt va vb vc H v) (h : MkPs K va vb vc l xs ta m) (hl : n + m ≤ 100) (k : ∀ p vs H', Same H0 H' → H' p = some (.lst vs) → vs.length = n + m → (∀ v ∈ vs, PairAt va vb vc H' v) → D.nx [some (.ref l), some (.ref p)] H') :
    tAsg (tOp rCat (tVar 1) (tLst ta)) (gName 1) D [some (.ref l), some (.ref p)] H := pcat rfl el es s0 ep en eu h hl fun p vs H' s e1 e2 e3 => k p vs H' s e1 e2 e3
end
def spAttrs (K : PySem.W.Frag) : Sp := fun vs H Q _ => ∃ l xs va vb vc, vs = [.ref l] ∧ H l = some (.lst xs) ∧ ErrsAt K [va, vb, vc] H xs (List.range 45) ∧ ∀ p vs H', Same H H' → H' p = some (.lst vs) → (∀ v ∈ vs, PairAt va vb vc H' v) → Q (.ref p) H'
abbrev s_attrs : Stmt := top 53
abbrev N_attrs : List Str := ["_law_e", "_law_told"]
theorem sc_attrs : FnScope N_attrs ["_law_e"] (defScope s_attrs) := ⟨rfl, rfl, rfl, by decide +kernel, rfl, by decide +kernel, by decide +kernel⟩
section
variable {P : Program} {w : World} {K : PySem.W.Frag} {mg : Str → Option Value} {base : Heap}
theorem kp_attrs (F : At K mg "_law_attributes" s_attrs) (S : Src P w K mg base) : Keeps CX0 P w K mg base "_law_attributes" 1 ["_law_e"] (spAttrs K) := by
  refine keeps_of F sc_attrs (fun _ _ _ _ _ _ us hl => match us, hl with | [_], _ => rfl) (fun vs H Q E h => ?_) (fun f cdv A outer s H vs Q E hr h => ?_)
  · obtain ⟨l, xs, va, vb, vc, rfl, _⟩ := h
    rfl
  · obtain ⟨l, xs, va, vb, vc, rfl, el, es, k⟩ := h
    refine ⟨_, (pss_cons (ps_set (i := 1) sc_attrs.nd rfl (by walk_at "lv") (pe_lst (pa_cons (pe_tup (pa_cons pe_int (pa_cons (pe_lst (pa_cons (pe_xat (pe_ix ix_list (pv 0) pe_int (fun _ _ => rfl))) pa_nil)) pa_nil))) (pa_cons (pe_tup (pa_cons pe_int (pa_cons (pe_lst (pa_cons (pe_xat (pe_ix ix_list (pv 0) pe_int (fun _ _ => rfl))) pa_nil)) pa_nil))) (pa_cons (pe_tup (pa_cons pe_int (pa_cons (pe_lst (pa_cons (pe_xat (pe_ix ix_list (pv 0) pe_int (fun _ _ => rfl))) (pa_cons (pe_xat (pe_ix ix_list (pv 0) pe_int (fun _ _ => rfl))) pa_nil))) pa_nil))) (pa_cons (pe_tup (pa_cons pe_int (pa_cons (pe_lst (pa_cons (pe_xat (pe_ix ix_list (pv 0) pe_int (fun _ _ => rfl))) (pa_cons (pe_xat (pe_ix ix_list (pv 0) pe_int (fun _ _ => rfl))) pa_nil))) pa_nil))) pa_nil))))))
      (pss_cons (ps_set (i := 1) sc_attrs.nd rfl (by walk_at "lv") (pe_op op_cat (pv 1) (pe_lst (pa_cons (pe_tup (pa_cons pe_int (pa_cons (pe_lst (pa_cons (pe_xat (pe_ix ix_list (pv 0) pe_int (fun _ _ => rfl))) (pa_cons (pe_xat (pe_ix ix_list (pv 0) pe_int (fun _ _ => rfl))) pa_nil))) pa_nil))) (pa_cons (pe_tup (pa_cons pe_int (pa_cons (pe_lst (pa_cons (pe_xat (pe_ix ix_list (pv 0) pe_int (fun _ _ => rfl))) pa_nil)) pa_nil))) (pa_cons (pe_tup (pa_cons pe_int (pa_cons (pe_lst (pa_cons (pe_xat (pe_ix ix_list (pv 0) pe_int (fun _ _ => rfl))) (pa_cons (pe_xat (pe_ix ix_list (pv 0) pe_int (fun _ _ => rfl))) (pa_cons (pe_xat (pe_ix ix_list (pv 0) pe_int (fun _ _ => rfl))) pa_nil)))) pa_nil))) pa_nil))))))
      (pss_cons (ps_set (i := 1) sc_attrs.nd rfl (by walk_at "lv") (pe_op op_cat (pv 1) (pe_lst (pa_cons (pe_tup (pa_cons pe_int (pa_cons (pe_lst (pa_cons (pe_xat (pe_ix ix_list (pv 0) pe_int (fun _ _ => rfl))) pa_nil)) pa_nil))) (pa_cons (pe_tup (pa_cons pe_int (pa_cons (pe_lst (pa_cons (pe_xat (pe_ix ix_list (pv 0) pe_int (fun _ _ => rfl))) pa_nil)) pa_nil))) (pa_cons (pe_tup (pa_cons pe_int (pa_cons (pe_lst (pa_cons (pe_xat (pe_ix ix_list (pv 0) pe_int (fun _ _ => rfl))) pa_nil)) pa_nil))) (pa_cons (pe_tup (pa_cons pe_int (pa_cons (pe_lst (pa_cons (pe_xat (pe_ix ix_list (pv 0) pe_int (fun _ _ => rfl))) pa_nil)) pa_nil))) (pa_cons (pe_tup (pa_cons pe_int (pa_cons (pe_lst (pa_cons (pe_xat (pe_ix ix_list (pv 0) pe_int (fun _ _ => rfl))) pa_nil)) pa_nil))) pa_nil))))))))
      (pss_cons (ps_set (i := 1) sc_attrs.nd rfl (by walk_at "lv") (pe_op op_cat (pv 1) (pe_lst (pa_cons (pe_tup (pa_cons pe_int (pa_cons (pe_lst (pa_cons (pe_xat (pe_ix ix_list (pv 0) pe_int (fun _ _ => rfl))) (pa_cons (pe_xat (pe_ix ix_list (pv 0) pe_int (fun _ _ => rfl))) pa_nil))) pa_nil))) (pa_cons (pe_tup (pa_cons pe_int (pa_cons (pe_lst (pa_cons (pe_xat (pe_ix ix_list (pv 0) pe_int (fun _ _ => rfl))) pa_nil)) pa_nil))) (pa_cons (pe_tup (pa_cons pe_int (pa_cons (pe_lst (pa_cons (pe_xat (pe_ix ix_list (pv 0) pe_int (fun _ _ => rfl))) pa_nil)) pa_nil))) (pa_cons (pe_tup (pa_cons pe_int (pa_cons (pe_lst (pa_cons (pe_xat (pe_ix ix_list (pv 0) pe_int (fun _ _ => rfl))) pa_nil)) pa_nil))) pa_nil)))))))
      (pss_cons (ps_set (i := 1) sc_attrs.nd rfl (by walk_at "lv") (pe_op op_cat (pv 1) (pe_lst (pa_cons (pe_tup (pa_cons pe_int (pa_cons (pe_lst (pa_cons (pe_xat (pe_ix ix_list (pv 0) pe_int (fun _ _ => rfl))) (pa_cons (pe_xat (pe_ix ix_list (pv 0) pe_int (fun _ _ => rfl))) pa_nil))) pa_nil))) (pa_cons (pe_tup (pa_cons pe_int (pa_cons (pe_lst (pa_cons (pe_xat (pe_ix ix_list (pv 0) pe_int (fun _ _ => rfl))) pa_nil)) pa_nil))) (pa_cons (pe_tup (pa_cons pe_int (pa_cons (pe_lst (pa_cons (pe_xat (pe_ix ix_list (pv 0) pe_int (fun _ _ => rfl))) pa_nil)) pa_nil))) (pa_cons (pe_tup (pa_cons pe_int (pa_cons (pe_lst (pa_cons (pe_xat (pe_ix ix_list (pv 0) pe_int (fun _ _ => rfl))) pa_nil)) pa_nil))) pa_nil)))))))
      (pss_one (ps_ret (pe_op op_cat (pv 1) (pe_lst (pa_cons (pe_tup (pa_cons pe_int (pa_cons (pe_lst (pa_cons (pe_xat (pe_ix ix_list (pv 0) pe_int (fun _ _ => rfl))) pa_nil)) pa_nil))) (pa_cons (pe_tup (pa_cons pe_int (pa_cons (pe_lst (pa_cons (pe_xat (pe_ix ix_list (pv 0) pe_int (fun _ _ => rfl))) pa_nil)) pa_nil))) (pa_cons (pe_tup (pa_cons pe_int (pa_cons (pe_lst (pa_cons (pe_xat (pe_ix ix_list (pv 0) pe_int (fun _ _ => rfl))) pa_nil)) pa_nil))) pa_nil)))))))))))), ?_⟩
    refine pst_new el es (pc (pp (by decide) (pa1 (j := 0) S rfl (by decide) rfl)) (pc (pp (by decide) (pa1 (j := 1) S rfl (by decide) rfl)) (pc (pp (by decide) (pa2 (j := 2) S rfl (by decide) (by decide) rfl rfl)) (pc (pp (by decide) (pa2 (j := 6) S rfl (by decide) (by decide) rfl rfl)) pn0)))) (by decide) fun p0 v0 H0 s0 e0 n0 q0 => ?_
    refine pst_more el es s0 e0 n0 q0 (pc (pp (by decide) (pa2 (j := 8) S rfl (by decide) (by decide) rfl rfl)) (pc (pp (by decide) (pa1 (j := 12) S rfl (by decide) rfl)) (pc (pp (by decide) (pa3 (j := 14) S rfl (by decide) (by decide) (by decide) rfl rfl rfl)) pn0))) (by decide) fun p1 v1 H1 s1 e1 n1 q1 => ?_
    refine pst_more el es s1 e1 n1 q1 (pc (pp (by decide) (pa1 (j := 15) S rfl (by decide) rfl)) (pc (pp (by decide) (pa1 (j := 17) S rfl (by decide) rfl)) (pc (pp (by decide) (pa1 (j := 20) S rfl (by decide) rfl)) (pc (pp (by decide) (pa1 (j := 28) S rfl (by decide) rfl)) (pc (pp (by decide) (pa1 (j := 29) S rfl (by decide) rfl)) pn0))))) (by decide) fun p2 v2 H2 s2 e2 n2 q2 => ?_
    refine pst_more el es s2 e2 n2 q2 (pc (pp (by decide) (pa2 (j := 30) S rfl (by decide) (by decide) rfl rfl)) (pc (pp (by decide) (pa1 (j := 32) S rfl (by decide) rfl)) (pc (pp (by decide) (pa1 (j := 33) S rfl (by decide) rfl)) (pc (pp (by decide) (pa1 (j := 35) S rfl (by decide) rfl)) pn0)))) (by decide) fun p3 v3 H3 s3 e3 n3 q3 => ?_
    refine pst_more el es s3 e3 n3 q3 (pc (pp (by decide) (pa2 (j := 37) S rfl (by decide) (by decide) rfl rfl)) (pc (pp (by decide) (pa1 (j := 38) S rfl (by decide) rfl)) (pc (pp (by decide) (pa1 (j := 39) S rfl (by decide) rfl)) (pc (pp (by decide) (pa1 (j := 40) S rfl (by decide) rfl)) pn0)))) (by decide) fun p4 v4 H4 s4 e4 n4 q4 => ?_
    exact pcat rfl el es s4 e4 n4 q4 (pc (pp (by decide) (pa1 (j := 41) S rfl (by decide) rfl)) (pc (pp (by decide) (pa1 (j := 43) S rfl (by decide) rfl)) (pc (pp (by decide) (pa1 (j := 44) S rfl (by decide) rfl)) pn0))) (by decide) fun p5 v5 H5 s5 e5 n5 q5 => k _ _ _ s5 e5 q5
end
end My

namespace My
open PySem PySem.Spec PyProof.Rows L2
local macro_rules | `(tactic| walk_at "lv") => `(tactic| first | exact Or.inl rfl | exact Or.inr rfl)
/-! ### _law_caught -/
/-- X() as an error that is raised at once -/
theorem pe_exr {X : Cx} {p pos : Pos} {x b : Str} {fs : List Str} (T : ExF X.K X.mg x b fs) (nf : fs = []) (hg : Gl X x) (dbg : (x == ("__debug__" : Str)) = false := by decide) :
    PE X (.Call (.Name x p) [] [] pos) (fun _ H Q => ∀ a, H a = none → Q (.ref a) (upd H a (ExO (.ref (He.ga X.K x)) a))) := by
  refine ⟨fun pins s σ H Q I h => ?_⟩
  refine wpAny_Call_Name_kw (ld_glob I hg T.g ?_ dbg)
  refine PySem.W.callWith_K0 I.kIn T.kC ?_
  show wpAny _ _ (call (.ref (He.ga X.K x)) []) _ _ _
  obtain ⟨bm, N, nm, qn, bs, hdct, sn, sub, ab, col, dd, k0, k1, k2, k3, k5, mN, hC, hN, hni, TL⟩ := exc_obj I.kIn (T.new nf)
  refine wpAny_call_exc_subT PySem.F.excBase_ValueError TL hC hN hni (fun h' a hm => ?_) (by show 0 ≤ sizeLine; exact Nat.zero_le _)
  have hn : H a = none := I.hok.gone hm.new
  obtain ⟨tt, et, _, _⟩ := hm.there
  exact ⟨.ref a, _, I.laidN hm.keeps hm.new hn (exO_ok et ⟨rfl, rfl⟩ rfl rfl rfl (show 4 < 6 by decide)), rfl, h a hn⟩
theorem pmk_ki {X : Cx} {k : Nat} {x : Str} {fs : List Str} {e : Expr} {es : List Expr} {ta : TA} {p pos : Pos} (S : Src X.prog X.w X.K X.mg X.base) (m : (x, fs) ∈ errs) (nf : fs ≠ []) (hr : Room (k + 2) X.A) (hg : Gl X x) (ha : PA X (e :: es) ta)
    (dbg : (x == ("__debug__" : Str)) = false := by decide) (hst : starEach (e :: es) X.env = (false, eval e X.env) :: starEach es X.env := by rfl) (hpl : (backTo pos (starEach es X.env)).any (·.1) = false := by rfl) :
    PMk X (.Call (.Name x p) (e :: es) [] pos) (tMkO (He.ga X.K x) (spIni (He.ga X.K x) fs) [] ta) := by
  obtain ⟨fd, F, b⟩ := S.i x fs m nf
  have T := S.e x fs m
  obtain ⟨iC, tI⟩ := T.ini nf
  exact pmk_oex T.ox iC tI F (hr.mono (by omega)) b .nil pass0 hg T.g ha dbg hst hpl
theorem del_at {H : Hp} {a : Addr} (h : H a = none) : delH (upd H a (ExO c a)) a = H := delH_new h
/-- the reading of the making, with the way out -/
theorem mko_ok {K : PySem.W.Frag} {C : Addr} {fs : List Str} {ta : TA} {σ : L2.St} {H : Hp} {W : XK} {ys : List V} (ht : ∀ Q : List V → Hp → Prop, Q ys H → ta σ H Q) (hl : ys.length = fs.length) (h9 : ys.length ≤ 1000)
    (hW : ∀ d H', Same H H' → H' d = some (.xd (fs.zip ys).reverse) → W (.ref C) (some d) H') : tMkO C (spIni C fs) [] ta σ H W := by
  refine ht _ ⟨h9, fun a ha => ⟨a, ys, (by rw [List.append_nil]), hl, upd_same, fun d H' hd hne e1 e2 k1 => ⟨rfl, d, _, e1, e2, ?_, ?_⟩⟩⟩
  · rw [upd_ne hne] at hd
    exact hd
  · refine hW d _ (fun b o z => ?_) upd_same
    have nba : b ≠ a := ne_of_none z ha
    have nbd : b ≠ d := fun q => by
      rw [upd_ne hne] at hd
      rw [q, hd] at z
      cases z
    rw [upd_ne nbd, del_ne nba]
    exact k1 b o nba (by rw [upd_ne nba]; exact z)
/-- raise of what is made so -/
def tRz (t : L2.St → Hp → XK → Prop) (W : WX) : TS := fun _ σ H => t σ H fun cls d H' => W cls d σ H'
def tWay (i : Int) (t : TS) : TS := tIfS (tTest (tOp rEq (tVar 0) (tC (.int i)))) t tNext
def tRet0 (X : Cx) (C : Addr) : L2.St → Hp → XK → Prop := fun σ H Q => (∀ a, H a = none → ∃ a' cls, (V.ref a : V) = .ref a' ∧ upd H a (ExO (.ref C) a) a' = some (ExO cls a') ∧ Fr0 X.H_0 a' ∧ Raises X cls ∧ Q cls none (delH (upd H a (ExO (.ref C) a)) a'))
def tBody (X : Cx) (K : PySem.W.Frag) (W : WX) : TS := tSeq (tWay 0 (tRz (tMkO (He.ga K "TooLarge") (spIni (He.ga K "TooLarge") ["most"]) [] (tCons (tC (.int 3000)) tNil)) W))
  (tSeq (tWay 1 (tRz (tRet0 X (He.ga K "StillLies")) W)) (tSeq (tWay 2 (tRz (tMkO (He.ga K "BadStory") (spIni (He.ga K "BadStory") ["at"]) [] (tCons (tC (.int 4)) tNil)) W))
  (tRz (tMkO (He.ga K "BadEdit") (spIni (He.ga K "BadEdit") ["at", "what"]) [] (tCons (tC (.int 2)) (tCons (tC (.str "form")) tNil))) W)))
def wayOf (n : Int) : Nat := if n = 0 then 32 else if n = 1 then 36 else if n = 2 then 43 else 30
def spCaught : Sp := fun vs H Q _ => ∃ n : Int, vs = [.int n] ∧ ∀ p H', Same H H' → H' p = some (.lst (kindsOf (wayOf n) (List.range 45))) → Q (.ref p) H'
abbrev s_caught : Stmt := top 55
abbrev N_caught : List Str := ["_law_way", "_law_e"]
theorem sc_caught : FnScope N_caught ["_law_way"] (defScope s_caught) := ⟨rfl, rfl, rfl, by decide +kernel, rfl, by decide +kernel, by decide +kernel⟩
section
variable {P : Program} {w : World} {K : PySem.W.Frag} {mg : Str → Option Value} {base : Heap}
theorem kp_caught (F : At K mg "_law_caught" s_caught) (S : Src P w K mg base) (GK : KeepsH P w K mg base "_law_kinds" 1 ["_law_e"] (spKindsH K)) (gB : mg "BookError" = some (.ref (He.ga K "BookError"))) : Keeps CX0 P w K mg base "_law_caught" 4 ["_law_way"] spCaught := by
  refine keeps_of F sc_caught (fun _ _ _ _ _ _ us hl => match us, hl with | [_], _ => rfl) (fun vs H Q E h => ?_) (fun f cdv A outer s H vs Q E hr h => ?_)
  · obtain ⟨n, rfl, _⟩ := h
    rfl
  · obtain ⟨n, rfl, k⟩ := h
    have T32 := S.e "TooLarge" ["most"] (by decide +kernel)
    have T36 := S.e "StillLies" [] (by decide +kernel)
    have T43 := S.e "BadStory" ["at"] (by decide +kernel)
    have T30 := S.e "BadEdit" ["at", "what"] (by decide +kernel)
    refine ⟨_, pss_one (ps_try_as (i := 1) (tb := tBody (cxOf CX0 P w K mg base N_caught "_law_caught" (defScope s_caught) f cdv A outer s H E).nox K) (ts := fun a cls d => tRet (tKindsH K a cls d (tVar 1))) (Wout := fun _ _ _ _ => False) rfl rfl sc_caught.nd rfl rfl ⟨(by rfl), by decide, .inl gB⟩ takes0
      (fun W pn xe tk _ => pss_cons (ps_if (pt_cmpR op_eq (pv 0) pe_int (nomark _)) (pss_one (ps_raise rfl tk (by exact pmk_ki (x := "TooLarge") (fs := ["most"]) S (by decide +kernel) (fun z => nomatch z) hr (by rfl) (pa_cons pe_int pa_nil)))) pss_nil)
        (pss_cons (ps_if (pt_cmpR op_eq (pv 0) pe_int (nomark _)) (pss_one (ps_raise rfl tk (by exact pmk_ret rfl (pe_exr T36 rfl (by rfl))))) pss_nil)
        (pss_cons (ps_if (pt_cmpR op_eq (pv 0) pe_int (nomark _)) (pss_one (ps_raise rfl tk (by exact pmk_ki (x := "BadStory") (fs := ["at"]) S (by decide +kernel) (fun z => nomatch z) hr (by rfl) (pa_cons pe_int pa_nil)))) pss_nil)
        (pss_one (ps_raise rfl tk (by exact pmk_ki (x := "BadEdit") (fs := ["at", "what"]) S (by decide +kernel) (fun z => nomatch z) hr (by rfl) (pa_cons pe_int (pa_cons pe_str pa_nil))))))))
      (fun a oe cls d pn hz hf => pss_one (ps_ret (pe_kindsH GK (hr.mono (by decide)) hz hf (by rfl) (pv 1))))), ?_⟩
    -- the suite
    have suite : ∀ (i : Nat) (x : Str) (fs : List Str) (H1 : Hp) (d : Option Addr), errs[i]? = some (x, fs) → i = wayOf n → Same H H1 → (∀ dd, d = some dd → ∃ gs, H1 dd = some (.xd gs)) → ∀ (a : Addr) (D : Ends), D.rt = Q →
        tRet (tKindsH K a (.ref (He.ga K x)) d (tVar 1)) D [some (V.int n), some (V.ref a)] H1 := fun i x fs H1 d ex ei s1 hd a D eD =>
      ⟨_, rfl, rfl, i, x, fs, ex, rfl, hd, fun q H' s2 e => by rw [eD]; exact k q H' (s1.trans s2) (by rw [← ei]; exact e)⟩
    refine ⟨_, rfl, rfl, _, rfl, ite2 (fun h0 => ?_) (fun h0 => ?_)⟩
    · have e0 : n = 0 := V.int.inj (of_decide_eq_true h0)
      refine mko_ok (K := K) (ys := [.int 3000]) (fun _ q => q) rfl (by show 1 ≤ 1000; decide) fun d H' s1 ed => ⟨true, T32.xm, fun _ a _ => ?_, fun z => nomatch z⟩
      exact suite 32 "TooLarge" ["most"] H' (some d) rfl (by rw [e0]; rfl) s1 (fun dd z => ⟨_, by cases z; exact ed⟩) a _ rfl
    · have n0 : n ≠ 0 := fun z => h0 (decide_eq_true (by rw [z]))
      refine ⟨_, rfl, rfl, _, rfl, ite2 (fun h1 => ?_) (fun h1 => ?_)⟩
      · have e1 : n = 1 := V.int.inj (of_decide_eq_true h1)
        intro a ha
        refine ⟨a, _, rfl, upd_same, fr0_none ha, raises_own T36.exC T36.ty, true, T36.xm, fun _ a' _ => ?_, fun z => nomatch z⟩
        exact suite 36 "StillLies" [] _ none rfl (by rw [e1]; rfl) (fun b o z => by rw [delH_new ha]; exact z) (fun dd z => nomatch z) a' _ rfl
      · have n1 : n ≠ 1 := fun z => h1 (decide_eq_true (by rw [z]))
        refine ⟨_, rfl, rfl, _, rfl, ite2 (fun h2 => ?_) (fun h2 => ?_)⟩
        · have e2 : n = 2 := V.int.inj (of_decide_eq_true h2)
          refine mko_ok (K := K) (ys := [.int 4]) (fun _ q => q) rfl (by show 1 ≤ 1000; decide) fun d H' s1 ed => ⟨true, T43.xm, fun _ a _ => ?_, fun z => nomatch z⟩
          exact suite 43 "BadStory" ["at"] H' (some d) rfl (by rw [e2]; rfl) s1 (fun dd z => ⟨_, by cases z; exact ed⟩) a _ rfl
        · have n2 : n ≠ 2 := fun z => h2 (decide_eq_true (by rw [z]))
          unfold tNext
          dsimp only
          unfold tRz
          refine mko_ok (K := K) (C := He.ga K "BadEdit") (fs := ["at", "what"]) (ta := tCons (tC (.int 2)) (tCons (tC (.str "form")) tNil)) (ys := [.int 2, .str "form"]) (fun _ q => q) rfl (by show 2 ≤ 1000; decide) fun d H' s1 ed => ⟨true, T30.xm, fun _ a _ => ?_, fun z => nomatch z⟩
          exact suite 30 "BadEdit" ["at", "what"] H' (some d) rfl (by unfold wayOf; rw [if_neg n0, if_neg n1, if_neg n2]) s1 (fun dd z => ⟨_, by cases z; exact ed⟩) a _ rfl
end
end My

namespace My
open PySem PySem.Spec PyProof.Rows L2
local macro_rules | `(tactic| walk_at "lv") => `(tactic| first | exact Or.inl rfl | exact Or.inr rfl)
/-! ### the law -/
theorem nox_of {X : Cx} {ss : List Stmt} {G : TS → Prop} (h : ∃ t, PSs X.nox ss t ∧ G t) : ∃ t, PSs X ss t ∧ G t := by
  obtain ⟨t, h1, h2⟩ := h
  exact ⟨t, h1.nox, h2⟩
theorem bools_ok {K : PySem.W.Frag} {H : Hp} : ∀ bs : List Bool, DpAll K H (bs.map V.bl) (bs.map PyData.bool) ∧ PyData.canLayAll0 (bs.map PyData.bool) = true ∧ PyData.depthAll (bs.map PyData.bool) = 0
  | [] => ⟨.nil, rfl, rfl⟩
  | b :: r => by
    obtain ⟨h1, h2, h3⟩ := bools_ok (K := K) (H := H) r
    refine ⟨.cons (.bl b) h1, h2, ?_⟩
    show max 0 _ = 0
    rw [h3]
    rfl
theorem shaped_list {ds : List PyData} (h1 : PyData.canLayAll0 ds = true) (h2 : PyData.depthAll ds ≤ 60) : SeqAt.shaped (.list ds) = true := by
  refine Bool.and_eq_true_iff.mpr ⟨h1, decide_eq_true ?_⟩
  show PyData.depthAll ds + 1 ≤ 64
  omega
/-- two lists of the same data are not unlike -/
theorem ne_same {K : PySem.W.Frag} {H : Hp} {p q : Addr} {xs : List V} {ds : List PyData} {Q : VK} (hp : SqL K H p xs) (hq : SqL K H q xs) (hd : DpAll K H xs ds) (h1 : PyData.canLayAll0 ds = true) (h2 : PyData.depthAll ds ≤ 60) (k : Q (.bl false) H) : rNeD K (.ref p) (.ref q) H Q := by
  refine ⟨.list ds, .list ds, .lst hp hd, .lst hq hd, shaped_list h1 h2, shaped_list h1 h2, ?_⟩
  rw [PySem.SeqAt.eqv_refl (.list ds) h1]
  exact k
theorem cut_ok {va vb vc : V} {n : Nat} (h : n ≤ 3) : cutV [va, vb, vc] none (some (([va, vb, vc].take n).length : Int)) = [va, vb, vc].take n := by
  have hn : n = 0 ∨ n = 1 ∨ n = 2 ∨ n = 3 := by omega
  rcases hn with rfl | rfl | rfl | rfl <;> rfl
theorem kinds_bools (i : Nat) : kindsOf i (List.range 45) = ((List.range 45).map fun j => decide (i = j)).map V.bl := by
  unfold kindsOf
  rw [List.map_map]
  rfl
theorem dec_int (j i : Nat) : decide ((V.int (0 + (j : Int))) = V.int (i : Int)) = decide (i = j) := by
  by_cases h : i = j
  · rw [decide_eq_true h, decide_eq_true (by rw [h, Int.zero_add])]
  · rw [decide_eq_false h, decide_eq_false (fun z => h (by have := V.int.inj z; omega))]
theorem range_succ {f : Nat → V} (j : Nat) : (List.range (j + 1)).map f = (List.range j).map f ++ [f j] := by
  rw [List.range_succ, List.map_append]
  rfl
def spLaw (K : PySem.W.Frag) : Sp := fun vs H Q _ => ∃ (a : Addr) (ns : List Int), vs = [.ref a] ∧ SqL K H a (ns.map V.int) ∧ ns.length ≤ 63 ∧ ∀ H', Q (.bl true) H'
abbrev s_law : Stmt := top 56
abbrev N_law : List Str := ["_law_script", "_law_hand_here", "_law_turn", "_law_a", "_law_b", "_law_c", "_law_errors_here", "_law_at", "_law_e", "_law_told", "_law_way", "_law_k"]
theorem sc_law : FnScope N_law ["_law_script"] (defScope s_law) := ⟨rfl, rfl, rfl, by decide +kernel, rfl, by decide +kernel, by decide +kernel⟩
section
variable {P : Program} {w : World} {K : PySem.W.Frag} {mg : Str → Option Value} {base : Heap}
theorem kp_law {fd : FuncData} (F : FunD K "law" "law" (defArgs s_law) (defBody s_law) (defScope s_law) [] [] (He.ga K "law") fd) (S : Src P w K mg base) (DD : Desc K) (nIs : mg "isinstance" = none) (nR : mg "range" = none) (nL : mg "len" = none) (nV : mg "ValueError" = none) (gB : mg "BookError" = some (.ref (He.ga K "BookError")))
    (GH : Keeps CX0 P w K mg base "_law_hand" 1 ["_law_script"] (spHand K)) (GT : Keeps CX0 P w K mg base "_law_drawn_thing" 3 ["_law_hand_here"] spThing) (GE : Keeps CX0 P w K mg base "_law_errors" 3 ["_law_a", "_law_b", "_law_c"] (spErrs K))
    (GK : Keeps CX0 P w K mg base "_law_kinds" 1 ["_law_e"] (spKinds K)) (GA : Keeps CX0 P w K mg base "_law_attributes" 1 ["_law_e"] (spAttrs K)) (GC : Keeps CX0 P w K mg base "_law_caught" 4 ["_law_way"] spCaught) : FnOk P w K mg base CX0 5 (He.ga K "law") fd ["_law_script"] (spLaw K) := by
  refine F.ok sc_law (fun vs H Q E h => ?_) (fun cdv A outer s H vs Q E hr h => nox_of ?_)
  · obtain ⟨a, ns, rfl, _⟩ := h
    rfl
  · obtain ⟨a, ns, rfl, hS, hlen, k⟩ := h
    have hr3 : Room 3 _ := hr.mono (by decide)
    have hr1 : Room 1 _ := hr.mono (by decide)
    refine ⟨_, (pss_cons (ps_set (i := 1) sc_law.nd rfl (by walk_at "lv") (pe_k GH hr1 (by rfl) pass0 (pa_cons (pv 0) pa_nil)))
        (pss_cons (ps_for PassesOwn.never rfl (pi_range1 (by rfl) nR (pa_cons pe_int pa_nil)) (pg_name (i := 2) sc_law.nd rfl (by walk_at "lv")) (pss_cons (ps_set (i := 3) sc_law.nd rfl (by walk_at "lv") (pe_k GT hr3 (by rfl) pass0 (pa_cons (pv 1) pa_nil)))
        (pss_cons (ps_set (i := 4) sc_law.nd rfl (by walk_at "lv") (pe_k GT hr3 (by rfl) pass0 (pa_cons (pv 1) pa_nil)))
        (pss_cons (ps_set (i := 5) sc_law.nd rfl (by walk_at "lv") (pe_k GT hr3 (by rfl) pass0 (pa_cons (pv 1) pa_nil)))
        (pss_cons (ps_set (i := 6) sc_law.nd rfl (by walk_at "lv") (pe_k GE hr3 (by rfl) pass0 (pa_cons (pv 3) (pa_cons (pv 4) (pa_cons (pv 5) pa_nil)))))
        (pss_cons (ps_for PassesOwn.never rfl (pi_range1 (by rfl) nR (pa_cons (pe_callB call_len_seq (by rfl) nL boot_len (pa_cons (pv 6) pa_nil)) pa_nil)) (pg_name (i := 7) sc_law.nd rfl (by walk_at "lv")) (pss_cons (ps_set (i := 8) sc_law.nd rfl (by walk_at "lv") (pe_ix ix_list (pv 6) (pv 7) (fun _ _ => rfl)))
        (pss_cons (ps_if (PW.pt (pw_or (pt_not (pt_val (pe_callB (call_isx DD.g DD.t) (by rfl) nIs boot_isinstance (pa_cons (pv 8) (pa_cons (pe_glob (v := .ref (He.ga K "BookError")) (by rfl) gB rfl) pa_nil))))) (pw_or1 (pt_not (pt_val (pe_callB (call_isx DD.g DD.t) (by rfl) nIs boot_isinstance (pa_cons (pv 8) (pa_cons (pe_bltn (v := .ty "ValueError") (by rfl) nV PyProof.Rows.Boot.«ValueError» rfl) pa_nil)))))))) (pss_one (ps_ret pe_bl)) pss_nil)
        (pss_one (ps_if (pt_cmpR (op_neD hr.units) (pe_k GK hr1 (by rfl) pass0 (pa_cons (pv 8) pa_nil)) (pe_lc (own := [("_law_k", 11)]) (g := gName 11) (tt := tYes) rfl sc_law.nd (pi_range1 (by rfl) nR (pa_cons pe_int pa_nil)) (blkOk_by (N := N_law) (sc := defScope s_law) (by decide +kernel)) (fun _ _ _ _ _ => (pg_name (i := 11) sc_law.nd rfl (by walk_at "lv"))) (fun _ _ _ _ _ => pts_nil) (fun _ _ _ _ _ => (pe_cmpR op_eq (pv 11) (pv 7) (nomark _)))) (nomark _)) (pss_one (ps_ret pe_bl)) pss_nil)))))
        (pss_one (ps_for PassesOwn.never rfl (pi_list (pe_k GA hr1 (by rfl) pass0 (pa_cons (pv 6) pa_nil))) (pg_tup (by rfl) (pgs_cons (pg_name (i := 7) sc_law.nd rfl (by walk_at "lv")) (pgs_cons (pg_name (i := 9) sc_law.nd rfl (by walk_at "lv")) pgs_nil))) (pss_one (ps_if (pt_cmpR (op_neD hr.units) (pv 9) (pe_slice sl_list (pe_lst (pa_cons (pv 3) (pa_cons (pv 4) (pa_cons (pv 5) pa_nil)))) po_none (po_some (pe_callB call_len_seq (by rfl) nL boot_len (pa_cons (pv 9) pa_nil)))) (nomark _)) (pss_one (ps_ret pe_bl)) pss_nil))))))))))
        (pss_cons (ps_for PassesOwn.never rfl (pi_range1 (by rfl) nR (pa_cons pe_int pa_nil)) (pg_name (i := 10) sc_law.nd rfl (by walk_at "lv")) (pss_one (ps_if (pt_cmpR (op_neD hr.units) (pe_k GC hr (by rfl) pass0 (pa_cons (pv 10) pa_nil)) (pe_lc (own := [("_law_k", 11)]) (g := gName 11) (tt := tYes) rfl sc_law.nd (pi_range1 (by rfl) nR (pa_cons pe_int pa_nil)) (blkOk_by (N := N_law) (sc := defScope s_law) (by decide +kernel)) (fun _ _ _ _ _ => (pg_name (i := 11) sc_law.nd rfl (by walk_at "lv"))) (fun _ _ _ _ _ => pts_nil) (fun _ _ _ _ _ => (pe_cmpR op_eq (pv 11) (pe_ix (r := rIxT K) ix_tup (pe_tup (pa_cons pe_int (pa_cons pe_int (pa_cons pe_int (pa_cons pe_int pa_nil))))) (pv 10) (fun _ _ => rfl)) (nomark _)))) (nomark _)) (pss_one (ps_ret pe_bl)) pss_nil)))
        (pss_one (ps_ret pe_bl))))), ?_⟩
    refine ⟨_, rfl, a, ns, rfl, hS, hlen, fun p H1 _ hp s1 => ?_⟩
    refine ⟨2, rfl, by decide, by decide, for_range (n := 2) (fun i σ H2 => ∃ (x2 x3 x4 x5 x6 x7 x8 x9 x10 x11 : Option V), σ = [some (.ref a), some (.ref p), x2, x3, x4, x5, x6, x7, x8, x9, x10, x11] ∧ HandAt H2 p)
      ⟨none, none, none, none, none, none, none, none, none, none, rfl, hp⟩ ?_ ?_⟩
    · rintro turn σ H2 hturn ⟨x2, x3, x4, x5, x6, x7, x8, x9, x10, x11, rfl, hp2⟩
      refine ⟨_, rfl, p, rfl, hp2, fun va H3 hp3 b3 ta => ?_⟩
      refine ⟨_, rfl, p, rfl, hp3, fun vb H4 hp4 b4 tb => ?_⟩
      refine ⟨_, rfl, p, rfl, hp4, fun vc H5 hp5 b5 tc => ?_⟩
      have ta5 := (ta.but hp3 b4).but hp4 b5
      have tb5 := tb.but hp4 b5
      refine ⟨_, rfl, _, rfl, _, rfl, va, vb, vc, rfl, fun l xs H6 s6 el es => ?_⟩
      have hxs : xs.length = 45 := by
        rw [Paired.length es]
        rfl
      refine ⟨_, rfl, l, xs, rfl, .inl (SqL.of el), (45 : Int), by rw [hxs]; rfl, by decide, by decide, for_range (n := 45) (fun i σ H7 => ∃ (y7 y8 : Option V), σ = [some (.ref a), some (.ref p), some (V.int (0 + (turn : Int))), some va, some vb, some vc, some (.ref l), y7, y8, x9, x10, x11] ∧ Same H6 H7)
        ⟨x7, x8, rfl, Same.refl H6⟩ ?_ ?_⟩
      · rintro i σ H7 hi ⟨y7, y8, rfl, s7⟩
        obtain ⟨v, ev, ee⟩ := errs_get (k := i) (i := i) es (by rw [List.getElem?_range hi])
        have ee7 := ee.same s7
        refine ⟨_, rfl, _, rfl, l, xs, _, v, rfl, rfl, SqL.of (s7 _ _ el), by rw [Int.zero_add]; exact atI_nat ev, ?_⟩
        obtain ⟨ea, x, fs, rfl, ex, kx⟩ := ee7.known
        have Tx := S.e x fs (List.mem_of_getElem? ex)
        refine ⟨_, rfl, ea, _, .ref (He.ga K "BookError"), x, _, fs, true, rfl, (fun u r => r), Tx, kx _, Tx.kB, true, rfl, ?_⟩
        refine iteF ?_
        refine ⟨_, rfl, ea, _, .type "ValueError", x, _, fs, true, rfl, (fun u r => r), Tx, kx _, Tx.kV, true, rfl, ?_⟩
        refine iteF ?_
        refine ⟨_, rfl, _, i, _, rfl, ee7, fun q H8 s8 eq => ?_⟩
        refine ⟨45, rfl, by decide, by decide, fun D hD => ?_⟩
        refine lc_range (lo := 0) (n := 45) (fun j H9 => H9 D = some (.lst ((List.range j).map fun (j : Nat) => V.bl (decide ((V.int (0 + (j : Int))) = V.int (0 + (i : Int)))))) ∧ Same H8 H9) ⟨upd_same, same_new (Same.refl H8) hD⟩ ?_ ?_
        · rintro j H9 hj ⟨e9, s9⟩
          refine ⟨rfl, _, rfl, _, rfl, rfl, _, e9, ?_, ?_, ?_⟩
          · simp only [List.length_map, List.length_range]
            exact small1000 (by omega)
          · rw [range_succ]
            exact upd_same
          · exact fun b o z => by rw [upd_ne (ne_of_none z hD)]; exact s9 b o z
        · rintro H9 ⟨e9, s9⟩
          have el9 : ((List.range 45).map fun (j : Nat) => V.bl (decide ((V.int (0 + (j : Int))) = V.int (0 + (i : Int))))) = ((List.range 45).map fun j => decide (i = j)).map V.bl := by
            rw [List.map_map]
            refine List.map_congr_left fun j _ => ?_
            show V.bl _ = V.bl _
            rw [Int.zero_add (i : Int), dec_int]
          rw [el9] at e9
          rw [kinds_bools] at eq
          obtain ⟨d1, d2, d3⟩ := bools_ok (K := K) (H := H9) ((List.range 45).map fun j => decide (i = j))
          refine ne_same (SqL.of (s9 _ _ eq)) (SqL.of e9) d1 d2 (by rw [d3]; exact Nat.zero_le _) ⟨_, rfl, iteF ?_⟩
          exact ⟨_, _, rfl, (s7.trans s8).trans s9⟩
      · rintro σ H7 ⟨y7, y8, rfl, s7⟩
        refine ⟨_, rfl, l, xs, va, vb, vc, rfl, s7 _ _ el, es.same s7, fun q ps H8 s8 eq hps => ?_⟩
        have hp8 : HandAt H8 p := ((hp5.same s6).same s7).same s8
        refine ⟨q, rfl, ⟨_, SqL.of eq⟩, for_list (K := K) (a := q) (xs := ps) (fun i σ H9 => ∃ (y7 y9 : Option V), σ = [some (.ref a), some (.ref p), some (V.int (0 + (turn : Int))), some va, some vb, some vc, some (.ref l), y7, y8, y9, x10, x11] ∧ Same H8 H9)
          ⟨y7, x9, rfl, Same.refl H8⟩ (fun i σ H9 _ ⟨_, _, _, s9⟩ => SqL.of (s9 _ _ eq)) ?_ ?_⟩
        · rintro i v σ H9 hi ⟨y7, y9, rfl, s9⟩
          obtain ⟨t, tl, kk, n, rfl, e1, e2, e3⟩ := (hps v (List.mem_of_getElem? hi)).same s9
          refine ⟨t, _, rfl, SqT.of e1, rfl, _, _, rfl, _, _, rfl, rfl, ?_⟩
          refine ⟨_, rfl, _, rfl, _, rfl, _, rfl, (by show 3 ≤ sizeLine; decide), fun m hm => ?_⟩
          have s10 := same_new (o := .lst [va, vb, vc]) (Same.refl H9) hm
          refine ⟨_, rfl, tl, _, rfl, .inl (SqL.of (s10 _ _ e2)), _, rfl, m, _, rfl, SqL.of upd_same, fun c hc => ?_⟩
          rw [cut_ok e3]
          have s11 := same_new (o := .lst ([va, vb, vc].take n)) (Same.refl _) hc
          have sall := (((s6.trans s7).trans s8).trans s9).trans (s10.trans s11)
          obtain ⟨ds, d1, d2, d3⟩ := things_dp (K := K) (H := upd (upd H9 m (.lst [va, vb, vc])) c (.lst ([va, vb, vc].take n))) (vs := [va, vb, vc].take n) (fun u hu => by
            have hu2 := List.mem_of_mem_take hu
            simp only [List.mem_cons, List.not_mem_nil, or_false] at hu2
            rcases hu2 with rfl | rfl | rfl
            · exact ta5.same sall
            · exact tb5.same sall
            · exact tc.same sall)
          refine ne_same (SqL.of ((s10.trans s11) _ _ e2)) (SqL.of upd_same) d1 d2 (by omega) ⟨_, rfl, iteF ?_⟩
          exact ⟨_, _, rfl, s9.trans (s10.trans s11)⟩
        · rintro σ H9 ⟨y7, y9, rfl, s9⟩
          exact ⟨_, _, _, _, _, _, _, _, _, _, rfl, hp8.same s9⟩
    · rintro σ H2 ⟨x2, x3, x4, x5, x6, x7, x8, x9, x10, x11, rfl, hp2⟩
      refine ⟨4, rfl, by decide, by decide, for_range (n := 4) (fun i σ H3 => ∃ (y10 : Option V), σ = [some (.ref a), some (.ref p), x2, x3, x4, x5, x6, x7, x8, x9, y10, x11]) ⟨x10, rfl⟩ ?_ ?_⟩
      · rintro i σ H3 hi ⟨y10, rfl⟩
        refine ⟨_, rfl, _, rfl, fun q H4 s4 eq => ?_⟩
        refine ⟨45, rfl, by decide, by decide, fun D hD => ?_⟩
        have hat : atI [V.int 32, V.int 36, V.int 43, V.int 30] (0 + (i : Int)) = some (V.int (wayOf (0 + (i : Int)) : Nat)) := by
          have h4 : i = 0 ∨ i = 1 ∨ i = 2 ∨ i = 3 := by omega
          rcases h4 with rfl | rfl | rfl | rfl <;> rfl
        generalize wayOf (0 + (i : Int)) = wy at eq hat
        refine lc_range (lo := 0) (n := 45) (fun j H9 => H9 D = some (.lst ((List.range j).map fun (j : Nat) => V.bl (decide ((V.int (0 + (j : Int))) = V.int (wy : Int))))) ∧ Same H4 H9) ⟨upd_same, same_new (Same.refl H4) hD⟩ ?_ ?_
        · rintro j H9 hj ⟨e9, s9⟩
          refine ⟨rfl, _, rfl, (by show 4 ≤ sizeLine; decide), fun t ht => ?_⟩
          have s10 := same_new (o := .tup [V.int 32, V.int 36, V.int 43, V.int 30]) (Same.refl H9) ht
          refine ⟨_, rfl, t, _, _, _, rfl, rfl, SqT.of upd_same, hat, rfl, _, s10 _ _ e9, ?_, ?_, ?_⟩
          · simp only [List.length_map, List.length_range]
            exact small1000 (by omega)
          · rw [range_succ]
            exact upd_same
          · exact fun b o z => by rw [upd_ne (ne_of_none z hD)]; exact s10 _ _ (s9 b o z)
        · rintro H9 ⟨e9, s9⟩
          have el9 : ((List.range 45).map fun (j : Nat) => V.bl (decide ((V.int (0 + (j : Int))) = V.int (wy : Int)))) = ((List.range 45).map fun j => decide (wy = j)).map V.bl := by
            rw [List.map_map]
            refine List.map_congr_left fun j _ => ?_
            show V.bl _ = V.bl _
            rw [dec_int]
          rw [el9] at e9
          rw [kinds_bools] at eq
          obtain ⟨d1, d2, d3⟩ := bools_ok (K := K) (H := H9) ((List.range 45).map fun j => decide (wy = j))
          refine ne_same (SqL.of (s9 _ _ eq)) (SqL.of e9) d1 d2 (by rw [d3]; exact Nat.zero_le _) ⟨_, rfl, iteF ?_⟩
          exact ⟨_, rfl⟩
      · rintro σ H3 ⟨y10, rfl⟩
        exact k H3
end
end My

namespace My
open PySem PySem.Spec PyProof.Rows L2
/-! ### what the top leaves -/
def looseN : List Str := (["BookError", "BadLot", "TooLong", "BadText", "BadLetter", "BadTest", "BadMove", "BadMachine", "BadLots", "BadBook", "BadWord", "NoLetter"] : List Str) ++ (["NoTest", "BadRaise", "BadNames", "BadProgram", "NoProcedure", "BadPlace", "BadChoices", "BadFuel", "BadMost", "TooMany", "BadStep", "OtherAlphabet"] : List Str) ++ (["BadEntry", "BadResults", "BadOrder", "BadPicks", "BadTreatment", "BadCalls", "BadUnit", "BadEdit", "NothingBack", "TooLarge", "NotTold", "NoCouple"] : List Str) ++ (["BadSteps", "StillLies", "NoLeast", "BadPool", "Unfit", "NoNeed", "NoAlarm", "BadDeed", "BadStory", "BadStoryText", "_law_mix", "_law_hand"] : List Str) ++ (["_law_draw", "_law_errors", "_law_kinds", "_law_attributes", "_law_drawn_thing", "_law_caught"] : List Str)
def defOf (x : Str) (st : Stmt) : He.DefD := ⟨(x, none), x, x, defArgs st, defBody st, defScope st, [], []⟩
def initOf (x q : Str) (st : Stmt) : He.DefD := ⟨(x, some "__init__"), "__init__", q, defArgs st, defBody st, defScope st, [], []⟩
def fns : List He.DefD := ([defOf "_law_mix" s_mix, defOf "_law_hand" s_hand, defOf "_law_draw" s_draw, defOf "_law_errors" s_errs, defOf "_law_kinds" s_kinds, defOf "_law_attributes" s_attrs, defOf "_law_drawn_thing" s_thing, defOf "_law_caught" s_caught, defOf "law" s_law] : List He.DefD) ++ ([initOf "BadLot" "BadLot.__init__" (inClass (top 2) 0), initOf "TooLong" "TooLong.__init__" (inClass (top 3) 0), initOf "BadText" "BadText.__init__" (inClass (top 4) 0), initOf "BadMachine" "BadMachine.__init__" (inClass (top 8) 0), initOf "BadBook" "BadBook.__init__" (inClass (top 10) 0), initOf "BadRaise" "BadRaise.__init__" (inClass (top 14) 0), initOf "BadProgram" "BadProgram.__init__" (inClass (top 16) 0), initOf "NoProcedure" "NoProcedure.__init__" (inClass (top 17) 0), initOf "BadChoices" "BadChoices.__init__" (inClass (top 19) 0), initOf "TooMany" "TooMany.__init__" (inClass (top 22) 0), initOf "BadCalls" "BadCalls.__init__" (inClass (top 30) 0), initOf "BadUnit" "BadUnit.__init__" (inClass (top 31) 0)] : List He.DefD) ++ ([initOf "BadEdit" "BadEdit.__init__" (inClass (top 32) 0), initOf "TooLarge" "TooLarge.__init__" (inClass (top 34) 0), initOf "NotTold" "NotTold.__init__" (inClass (top 35) 0), initOf "BadSteps" "BadSteps.__init__" (inClass (top 37) 0), initOf "NoLeast" "NoLeast.__init__" (inClass (top 39) 0), initOf "BadPool" "BadPool.__init__" (inClass (top 40) 0), initOf "Unfit" "Unfit.__init__" (inClass (top 41) 0), initOf "NoNeed" "NoNeed.__init__" (inClass (top 42) 0), initOf "NoAlarm" "NoAlarm.__init__" (inClass (top 43) 0), initOf "BadStory" "BadStory.__init__" (inClass (top 45) 0), initOf "BadStoryText" "BadStoryText.__init__" (inClass (top 46) 0)] : List He.DefD)
abbrev AlM : Type := Bool × He.AlD
def obsM (fn : List He.DefD) (b : PySem.W.Frag → Bool) (K : PySem.W.Frag) : AlM := (b K, He.obsD [] fn K)
def hookM (n : Nat) (fn : List He.DefD) (b : PySem.W.Frag → Bool) : PySem.W.Hook where
  α := AlM
  obs := fun s => obsM fn b (He.frG s.heap.get? (He.asD s.heap.get? n))
  val := fun _ => (true, He.valD fn)
  says := fun _ h => ∃ K : PySem.W.Frag, K.In h ∧ obsM fn b K = (true, He.valD fn)
  of := fun _ _ e => ⟨_, He.frG_in, e⟩
  keeps := fun _ _ _ ⟨F, inF, says⟩ k => ⟨F, PySem.W.Frag.In.keeps inF k, says⟩
theorem obsM_eq {n : Nat} {fn : List He.DefD} {b : PySem.W.Frag → Bool} {g : Addr → Option Obj} {s : Shared} (h : ∀ a, g a = s.heap.get? a) : obsM fn b (He.frG g (He.asD g n)) = (hookM n fn b).obs s := by
  have same : g = s.heap.get? := funext h
  rw [same] <;> rfl
def blts : List Str := ["int", "len", "abs", "enumerate", "range", "isinstance", "str", "ValueError"]
def facts (K : PySem.W.Frag) : Bool := (blts.all fun x => (He.Fa.free x).ok K) && ((He.Fa.glo "BookError").ok K && (clsB K (He.ga K "BookError") "BookError" He.veBase && (decide (PySem.W.specialIn K (.builtin "object.__class__") "__get__" = some (some (.builtin "getset_descriptor.__get__"))) &&
  (decide (PySem.W.takesIn K (.builtin "object.__class__") = some true) && ((fns.take 9).all (fun d => (He.Fa.glo d.at_.1).ok K) && errs.all (exB K "BookError"))))))
abbrev R : PySem.W.OpenRow := PySem.W.OpenLaw.row PySem.Challenge.rw_truebooks_k97_errors_stand_alone
abbrev hk : PySem.W.Hook := hookM 5 fns facts
def ob (s : PySem.W.SharedT) : AlM := obsM fns facts (He.frG (HandSHeadRun.getT s) (He.asD (HandSHeadRun.getT s) 5))
theorem ob_eq (s : PySem.W.SharedT) : ob s = hk.obs s.abs := obsM_eq (HandSHeadRun.getT_eq s)
theorem run (w : World) : HandSHeadRun.RunEq R (PySem.W.view R.prog [56]) hk ob 12000 looseN w := by
  intro os
  kernel_rfl
theorem law_ok {P : Program} {w : World} {K : PySem.W.Frag} {h : Heap} {mg : Str → Option Value} (X : K.In h) (G : h.Ns mainGlobals mg) (b1 : facts K = true) (c : He.SaysD [] fns K) {fd : FuncData} (F : FunD K "law" "law" (defArgs s_law) (defBody s_law) (defScope s_law) [] [] (He.ga K "law") fd) (base : Heap) : FnOk P w K mg base CX0 5 (He.ga K "law") fd ["_law_script"] (spLaw K) := by
  obtain ⟨f1, b1⟩ := and_ok b1
  obtain ⟨f2, b1⟩ := and_ok b1
  obtain ⟨f3, b1⟩ := and_ok b1
  obtain ⟨f4, b1⟩ := and_ok b1
  obtain ⟨f5, b1⟩ := and_ok b1
  obtain ⟨f6, f7⟩ := and_ok b1
  have fr : ∀ x, x ∈ blts → mg x = none := fun x hx => He.free_ok X G (List.all_eq_true.mp f1 x hx)
  have gl : ∀ d, d ∈ fns.take 9 → mg d.at_.1 = some (.ref (He.ga K d.at_.1)) := fun d hd => He.glo_ok X G (List.all_eq_true.mp f6 d hd)
  have he : ∀ x fs, (x, fs) ∈ errs → ExF K mg x "BookError" fs := fun x fs hx => exB_ok X G (List.all_eq_true.mp f7 (x, fs) hx)
  have at_ : ∀ (i : Nat) (x : Str) (st : Stmt), fns[i]? = some (defOf x st) → defOf x st ∈ fns.take 9 → At K mg x st := fun i x st hi hm => ⟨gl _ hm, c.def_ i (d := defOf x st) hi⟩
  have B : BookAt K := by
    obtain ⟨q, N, bs, sn, sub, ab, col, dd, k0, k1, k2, k3, k5, e⟩ := clsB_ok f3
    exact ⟨q, N, bs, _, sn, sub, ab, col, dd, k0, k1, k2, k3, k5, _, e⟩
  have S : Src P w K mg base := by
    refine ⟨he, fun x fs hx nf => ?_⟩
    have hj : ∀ y gs, (y, gs) ∈ errs → gs ≠ [] → (y, gs) ∈ errs.filter fun p => !p.2.isEmpty := fun y gs hy ng => List.mem_filter.mpr ⟨hy, by
      cases gs with
      | nil => exact absurd rfl ng
      | cons g r => rfl⟩
    have hx2 := hj x fs hx nf
    have ef : (errs.filter fun p => !p.2.isEmpty) = ([("BadLot", ["what"]), ("TooLong", ["most"]), ("BadText", ["line", "what"]), ("BadMachine", ["what", "at"]), ("BadBook", ["what", "at"]), ("BadRaise", ["at"]), ("BadProgram", ["name", "place", "what"]), ("NoProcedure", ["name"]), ("BadChoices", ["at"]), ("TooMany", ["most"]), ("BadCalls", ["at"]), ("BadUnit", ["at"])] : List (Str × List Str)) ++ ([("BadEdit", ["at", "what"]), ("TooLarge", ["most"]), ("NotTold", ["word"]), ("BadSteps", ["at"]), ("NoLeast", ["step", "word"]), ("BadPool", ["at"]), ("Unfit", ["what"]), ("NoNeed", ["place"]), ("NoAlarm", ["place"]), ("BadStory", ["at"]), ("BadStoryText", ["line"])] : List (Str × List Str)) := by rfl
    rw [ef] at hx2
    simp only [List.cons_append, List.nil_append, List.mem_cons, List.not_mem_nil, or_false, Prod.mk.injEq] at hx2
    rcases hx2 with ⟨rfl, rfl⟩ | ⟨rfl, rfl⟩ | ⟨rfl, rfl⟩ | ⟨rfl, rfl⟩ | ⟨rfl, rfl⟩ | ⟨rfl, rfl⟩ | ⟨rfl, rfl⟩ | ⟨rfl, rfl⟩ | ⟨rfl, rfl⟩ | ⟨rfl, rfl⟩ | ⟨rfl, rfl⟩ | ⟨rfl, rfl⟩ | ⟨rfl, rfl⟩ | ⟨rfl, rfl⟩ | ⟨rfl, rfl⟩ | ⟨rfl, rfl⟩ | ⟨rfl, rfl⟩ | ⟨rfl, rfl⟩ | ⟨rfl, rfl⟩ | ⟨rfl, rfl⟩ | ⟨rfl, rfl⟩ | ⟨rfl, rfl⟩ | ⟨rfl, rfl⟩
    · obtain ⟨fd, F⟩ := c.def_ 9 (d := initOf "BadLot" "BadLot.__init__" (inClass (top 2) 0)) rfl
      exact ki_BadLot ⟨fd, F⟩ (he _ _ (by decide +kernel))
    · obtain ⟨fd, F⟩ := c.def_ 10 (d := initOf "TooLong" "TooLong.__init__" (inClass (top 3) 0)) rfl
      exact ki_TooLong ⟨fd, F⟩ (he _ _ (by decide +kernel))
    · obtain ⟨fd, F⟩ := c.def_ 11 (d := initOf "BadText" "BadText.__init__" (inClass (top 4) 0)) rfl
      exact ki_BadText ⟨fd, F⟩ (he _ _ (by decide +kernel))
    · obtain ⟨fd, F⟩ := c.def_ 12 (d := initOf "BadMachine" "BadMachine.__init__" (inClass (top 8) 0)) rfl
      exact ki_BadMachine ⟨fd, F⟩ (he _ _ (by decide +kernel))
    · obtain ⟨fd, F⟩ := c.def_ 13 (d := initOf "BadBook" "BadBook.__init__" (inClass (top 10) 0)) rfl
      exact ki_BadBook ⟨fd, F⟩ (he _ _ (by decide +kernel))
    · obtain ⟨fd, F⟩ := c.def_ 14 (d := initOf "BadRaise" "BadRaise.__init__" (inClass (top 14) 0)) rfl
      exact ki_BadRaise ⟨fd, F⟩ (he _ _ (by decide +kernel))
    · obtain ⟨fd, F⟩ := c.def_ 15 (d := initOf "BadProgram" "BadProgram.__init__" (inClass (top 16) 0)) rfl
      exact ki_BadProgram ⟨fd, F⟩ (he _ _ (by decide +kernel))
    · obtain ⟨fd, F⟩ := c.def_ 16 (d := initOf "NoProcedure" "NoProcedure.__init__" (inClass (top 17) 0)) rfl
      exact ki_NoProcedure ⟨fd, F⟩ (he _ _ (by decide +kernel))
    · obtain ⟨fd, F⟩ := c.def_ 17 (d := initOf "BadChoices" "BadChoices.__init__" (inClass (top 19) 0)) rfl
      exact ki_BadChoices ⟨fd, F⟩ (he _ _ (by decide +kernel))
    · obtain ⟨fd, F⟩ := c.def_ 18 (d := initOf "TooMany" "TooMany.__init__" (inClass (top 22) 0)) rfl
      exact ki_TooMany ⟨fd, F⟩ (he _ _ (by decide +kernel))
    · obtain ⟨fd, F⟩ := c.def_ 19 (d := initOf "BadCalls" "BadCalls.__init__" (inClass (top 30) 0)) rfl
      exact ki_BadCalls ⟨fd, F⟩ (he _ _ (by decide +kernel))
    · obtain ⟨fd, F⟩ := c.def_ 20 (d := initOf "BadUnit" "BadUnit.__init__" (inClass (top 31) 0)) rfl
      exact ki_BadUnit ⟨fd, F⟩ (he _ _ (by decide +kernel))
    · obtain ⟨fd, F⟩ := c.def_ 21 (d := initOf "BadEdit" "BadEdit.__init__" (inClass (top 32) 0)) rfl
      exact ki_BadEdit ⟨fd, F⟩ (he _ _ (by decide +kernel))
    · obtain ⟨fd, F⟩ := c.def_ 22 (d := initOf "TooLarge" "TooLarge.__init__" (inClass (top 34) 0)) rfl
      exact ki_TooLarge ⟨fd, F⟩ (he _ _ (by decide +kernel))
    · obtain ⟨fd, F⟩ := c.def_ 23 (d := initOf "NotTold" "NotTold.__init__" (inClass (top 35) 0)) rfl
      exact ki_NotTold ⟨fd, F⟩ (he _ _ (by decide +kernel))
    · obtain ⟨fd, F⟩ := c.def_ 24 (d := initOf "BadSteps" "BadSteps.__init__" (inClass (top 37) 0)) rfl
      exact ki_BadSteps ⟨fd, F⟩ (he _ _ (by decide +kernel))
    · obtain ⟨fd, F⟩ := c.def_ 25 (d := initOf "NoLeast" "NoLeast.__init__" (inClass (top 39) 0)) rfl
      exact ki_NoLeast ⟨fd, F⟩ (he _ _ (by decide +kernel))
    · obtain ⟨fd, F⟩ := c.def_ 26 (d := initOf "BadPool" "BadPool.__init__" (inClass (top 40) 0)) rfl
      exact ki_BadPool ⟨fd, F⟩ (he _ _ (by decide +kernel))
    · obtain ⟨fd, F⟩ := c.def_ 27 (d := initOf "Unfit" "Unfit.__init__" (inClass (top 41) 0)) rfl
      exact ki_Unfit ⟨fd, F⟩ (he _ _ (by decide +kernel))
    · obtain ⟨fd, F⟩ := c.def_ 28 (d := initOf "NoNeed" "NoNeed.__init__" (inClass (top 42) 0)) rfl
      exact ki_NoNeed ⟨fd, F⟩ (he _ _ (by decide +kernel))
    · obtain ⟨fd, F⟩ := c.def_ 29 (d := initOf "NoAlarm" "NoAlarm.__init__" (inClass (top 43) 0)) rfl
      exact ki_NoAlarm ⟨fd, F⟩ (he _ _ (by decide +kernel))
    · obtain ⟨fd, F⟩ := c.def_ 30 (d := initOf "BadStory" "BadStory.__init__" (inClass (top 45) 0)) rfl
      exact ki_BadStory ⟨fd, F⟩ (he _ _ (by decide +kernel))
    · obtain ⟨fd, F⟩ := c.def_ 31 (d := initOf "BadStoryText" "BadStoryText.__init__" (inClass (top 46) 0)) rfl
      exact ki_BadStoryText ⟨fd, F⟩ (he _ _ (by decide +kernel))
  have DD : Desc K := ⟨of_decide_eq_true f4, of_decide_eq_true f5⟩
  have gB := He.glo_ok X G f2
  have m9 : ∀ i, i < 9 → ∀ d, fns[i]? = some d → d ∈ fns.take 9 := fun i hi d hd => List.mem_of_getElem? (by rw [List.getElem?_take_of_lt hi]; exact hd)
  have GM : Keeps CX0 P w K mg base "_law_mix" 1 ["_law_number", "_law_turn"] spMix := kp_mix (at_ 0 _ _ rfl (m9 0 (by decide) _ rfl)) (fr _ (by decide))
  have GH : Keeps CX0 P w K mg base "_law_hand" 1 ["_law_script"] (spHand K) := kp_hand (at_ 1 _ _ rfl (m9 1 (by decide) _ rfl)) (fr _ (by decide)) (fr _ (by decide)) (fr _ (by decide))
  have GD : Keeps CX0 P w K mg base "_law_draw" 2 ["_law_hand_here", "_law_many"] spDraw := kp_draw (at_ 2 _ _ rfl (m9 2 (by decide) _ rfl)) GM (fr _ (by decide)) (fr _ (by decide))
  have GE : Keeps CX0 P w K mg base "_law_errors" 3 ["_law_a", "_law_b", "_law_c"] (spErrs K) := kp_errs (at_ 3 _ _ rfl (m9 3 (by decide) _ rfl)) S
  have aK : At K mg "_law_kinds" s_kinds := at_ 4 _ _ rfl (m9 4 (by decide) _ rfl)
  have GK : Keeps CX0 P w K mg base "_law_kinds" 1 ["_law_e"] (spKinds K) := kp_kinds aK S B DD (fr _ (by decide))
  have GKH : KeepsH P w K mg base "_law_kinds" 1 ["_law_e"] (spKindsH K) := kh_kinds aK S B DD (fr _ (by decide))
  have GA : Keeps CX0 P w K mg base "_law_attributes" 1 ["_law_e"] (spAttrs K) := kp_attrs (at_ 5 _ _ rfl (m9 5 (by decide) _ rfl)) S
  have GT : Keeps CX0 P w K mg base "_law_drawn_thing" 3 ["_law_hand_here"] spThing := kp_thing (at_ 6 _ _ rfl (m9 6 (by decide) _ rfl)) GD (fr _ (by decide))
  have GC : Keeps CX0 P w K mg base "_law_caught" 4 ["_law_way"] spCaught := kp_caught (at_ 7 _ _ rfl (m9 7 (by decide) _ rfl)) S GKH gB
  exact kp_law F S DD (fr _ (by decide)) (fr _ (by decide)) (fr _ (by decide)) (fr _ (by decide)) gB GH GT GE GK GA GC
theorem law_at {K : PySem.W.Frag} {h : Heap} {mg : Str → Option Value} (X : K.In h) (G : h.Ns mainGlobals mg) (b1 : facts K = true) : mg "law" = some (.ref (He.ga K "law")) := by
  obtain ⟨f1, b1⟩ := and_ok b1
  obtain ⟨f2, b1⟩ := and_ok b1
  obtain ⟨f3, b1⟩ := and_ok b1
  obtain ⟨f4, b1⟩ := and_ok b1
  obtain ⟨f5, b1⟩ := and_ok b1
  obtain ⟨f6, f7⟩ := and_ok b1
  exact He.glo_ok X G (List.all_eq_true.mp f6 (defOf "law" s_law) (List.mem_of_getElem? (i := 8) rfl))
theorem binds_law {K : PySem.W.Frag} {fd : FuncData} (F : FunD K "law" "law" (defArgs s_law) (defBody s_law) (defScope s_law) [] [] (He.ga K "law") fd) (s : Shared) (u : Value) : BindsTo s fd ⟨[u], []⟩ [("_law_script", u)] :=
  FunD.bindsA (ps := ["_law_script"]) F (fun _ _ _ _ _ _ us hl => match us, hl with | [_], _ => rfl) s [u] rfl
end My
open PySem PySem.W PySem.Calls PyProof.Rows
theorem PySem.Challenge.cw_truebooks_k97_errors_stand_alone_holds : PySem.Challenge.rw_truebooks_k97_errors_stand_alone.Holds := by
  w_on; o_law
  refine HandSHeadRun.head_any (r := My.R) (q := view My.R.prog [56]) (H := My.hk) (ob := My.ob) (M := 12000) (loose := My.looseN) (d := HandSHeadRun.topDef My.R.prog 56) (kwd := []) My.ob_eq
    (by kernel_rfl) (fun s => by kernel_rfl) My.run (by kernel_rfl) (by kernel_rfl) (by kernel_rfl) (by rfl) (by first | assumption | decide +kernel) (by decide +kernel) ⟨rfl, rfl, rfl, rfl, rfl, by decide +kernel⟩ ?hw ?hc
  case hw => w_witness2
  case hc =>
    refine L2.walk_ofE (l := PySem.Challenge.rw_truebooks_k97_errors_stand_alone) (n := 63) (k := 5) (x := "_law_script") (CX := L2.CX0) rfl (by decide) (by kernel_rfl) ⟨rfl, by decide, by decide⟩ ?F (fun _ _ _ _ z => z)
    intro w mg fa h Y G hmg0
    obtain ⟨K, KX, c⟩ := Y
    have c1 : My.facts K = true := congrArg (fun z : My.AlM => z.1) c
    have c2 : He.SaysD [] My.fns K := congrArg (fun z : My.AlM => z.2) c
    have hmg : mg ("law" : PySem.Str) = some (.ref fa) := by
      have e : (HandSHeadRun.topDef My.R.prog 56).name = ("law" : PySem.Str) := by kernel_rfl
      rw [← e]
      exact hmg0
    obtain ⟨fd0, F0⟩ := c2.def_ 8 (d := My.defOf "law" My.s_law) rfl
    have ea : fa = He.ga K "law" := by
      have m0 := My.law_at KX G c1
      rw [hmg] at m0
      exact Value.ref.inj (Option.some.inj m0)
    subst ea
    exact ⟨K, fd0, My.spLaw K, KX, fun s u => My.binds_law F0 s u, fun H a ns hl _ hS => ⟨a, ns, rfl, hS, hl, fun _ => rfl⟩, fun base _ _ => My.law_ok KX G c1 c2 F0 base⟩
