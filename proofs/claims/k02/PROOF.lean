import PyProof.Rows.All
import Wide.All
import OpenK.AllK
import Wide.FinOn
import HandS.ForMost
import HandS.Wide
import HandS.Walk
import HandS.Defaults
import HandS.Exc
import HandS.ExcInit
import HandS.ExcIs
import KE.KExcIs
import HandS.ExcField
import HandS.ExcValue
import HandS.IsInst
import HandS.TryOnly
import HandS.ExcOwn
import HandS.WordsExc
import HandS.Head0
import HandS.Head1
import HandS.Head2
import HandS.HeadEnd
import HandS.HeadHook1
import HandS.HeadHook2
import HandS.HotCalls
import PySem.Challenge.RW_truebooks_k02_lots_moved_turned_and_rest
import PyProof.LongRange
import HandS.Flow
import HandS.OwnEq
import HandS.Property
import HandS.NoneIn
import HandS.DictComp
import HandS.Comp
import HandS.Conv
import HandS.Gcd
import HandS.TupAny
import HandS.More
import HandS.HeadNt
import HandS.Head3
set_option linter.all false
namespace My
/-! ### the mathematics of lots: plain Lean -/
def cyc (l : List Bool) (n : Int) : Bool := l.getD (n % (l.length : Int)).toNat false
def Per (f : Int → Bool) (d : Nat) : Prop := ∀ n : Int, f (n + d) = f n
theorem Per.mul {f : Int → Bool} {d : Nat} (h : Per f d) (k : Nat) : Per f (d * k) := by
  induction k with
  | zero => intro n; simp
  | succ k ih =>
    intro n
    have e : n + ((d * (k + 1) : Nat) : Int) = (n + ((d * k : Nat) : Int)) + (d : Int) := by
      rw [Nat.mul_succ]; push_cast; omega
    rw [e, h, ih]
theorem Per.back {f : Int → Bool} {d : Nat} (h : Per f d) (n : Int) : f (n - d) = f n := by
  have := h (n - d)
  rw [← this]; congr 1; omega
theorem Per.mulI {f : Int → Bool} {d : Nat} (h : Per f d) (k : Int) (n : Int) : f (n + d * k) = f n := by
  rcases Int.le_total 0 k with hk | hk
  · obtain ⟨j, rfl⟩ := Int.eq_ofNat_of_zero_le hk
    have := h.mul j n
    push_cast at this
    exact this
  · obtain ⟨j, hj⟩ := Int.eq_ofNat_of_zero_le (by omega : 0 ≤ -k)
    have e : k = -(j : Int) := by omega
    subst e
    have := (h.mul j).back n
    push_cast at this
    rw [← this]; congr 1; rw [Int.mul_neg]; omega
theorem Per.mod {f : Int → Bool} {d : Nat} (h : Per f d) (n : Int) : f (n % d) = f n := by
  have e := Int.emod_add_mul_ediv n (d : Int)
  have := h.mulI (n / d) (n % d)
  rw [e] at this
  exact this.symm
/-- two numbers alike modulo a period -/
theorem Per.cong {f : Int → Bool} {d : Nat} (h : Per f d) {a b : Int} (e : a % (d : Int) = b % (d : Int)) : f a = f b := by
  rw [← h.mod a, ← h.mod b, e]
theorem cyc_per {l : List Bool} : Per (cyc l) l.length := by
  intro n
  unfold cyc
  rw [Int.add_emod_right]
theorem cyc_lt {l : List Bool} {k : Nat} (h : k < l.length) : cyc l (k : Int) = l.getD k false := by
  unfold cyc
  have : ((k : Int) % (l.length : Int)).toNat = k := by
    rw [Int.emod_eq_of_lt (by omega) (by omega)]; rfl
  rw [this]
/-- least common period of two functions -/
structure Least (U D : Int → Bool) (d : Nat) : Prop where
  pos : 0 < d
  pu : Per U d
  pd : Per D d
  le : ∀ e : Nat, 0 < e → Per U e → Per D e → d ≤ e
theorem Least.dvd {U D : Int → Bool} {d m : Nat} (h : Least U D d) (hm : 0 < m) (pu : Per U m) (pd : Per D m) : m % d = 0 := by
  have key : ∀ {f : Int → Bool}, Per f d → Per f m → Per f (m % d) := by
    intro f hd hm' n
    have e := Nat.mod_add_div m d
    have e2 : n + ((m % d : Nat) : Int) = (n + (m : Int)) - ((d * (m / d) : Nat) : Int) := by
      have : (m : Int) = ((m % d + d * (m / d) : Nat) : Int) := by rw [e]
      rw [this]; push_cast; omega
    rw [e2, (hd.mul (m / d)).back, hm']
  rcases Nat.eq_zero_or_pos (m % d) with h0 | h0
  · exact h0
  · have := h.le _ h0 (key h.pu pu) (key h.pd pd)
    have := Nat.mod_lt m h.pos
    omega
theorem least_ex {U D : Int → Bool} : ∀ m : Nat, 0 < m → Per U m → Per D m → ∃ d, Least U D d := by
  intro m
  induction m using Nat.strongRecOn with | ind m ih =>
    intro hm pu pd
    by_cases h : ∃ e, 0 < e ∧ e < m ∧ Per U e ∧ Per D e
    · obtain ⟨e, he, hlt, pu', pd'⟩ := h
      exact ih e hlt he pu' pd'
    · refine ⟨m, hm, pu, pd, fun e he pu' pd' => ?_⟩
      rcases Nat.lt_or_ge e m with q | q
      · exact absurd ⟨e, he, q, pu', pd'⟩ h
      · exact q
theorem Least.unique {U D : Int → Bool} {d e : Nat} (h : Least U D d) (g : Least U D e) : d = e :=
  Nat.le_antisymm (h.le e g.pos g.pu g.pd) (g.le d h.pos h.pu h.pd)
/-- lists: d divides the length, and what stands at k stands at k mod d: a period of cyc -/
theorem per_of {l : List Bool} {d : Nat} (hd : 0 < d) (hm : l.length % d = 0) (h : ∀ k, k < l.length → l.getD k false = l.getD (k % d) false) : Per (cyc l) d := by
  rcases Nat.eq_zero_or_pos l.length with h0 | hl
  · intro n; unfold cyc; rw [List.length_eq_zero_iff.mp h0]; rfl
  have at_ : ∀ n : Int, cyc l n = l.getD (n % (d : Int)).toNat false := by
    intro n
    have k0 := Int.emod_nonneg n (by omega : (l.length : Int) ≠ 0)
    have k1 := Int.emod_lt_of_pos n (by omega : (0 : Int) < (l.length : Int))
    unfold cyc
    rw [h _ (by omega)]
    congr 1
    have e : (l.length : Int) = (d : Int) * ((l.length / d : Nat) : Int) := by
      have := Nat.mod_add_div l.length d
      rw [hm, Nat.zero_add] at this
      exact_mod_cast this.symm
    have q : (n % (l.length : Int)) % (d : Int) = n % (d : Int) := by
      rw [e]; exact Int.emod_emod_of_dvd n ⟨_, rfl⟩
    have : ((n % (l.length : Int)).toNat % d : Nat) = ((n % (l.length : Int)) % (d : Int)).toNat := by
      have q2 : (((n % (l.length : Int)).toNat : Nat) : Int) = n % (l.length : Int) := by omega
      have : (((n % (l.length : Int)).toNat % d : Nat) : Int) = (n % (l.length : Int)) % (d : Int) := by rw [Int.natCast_emod, q2]
      omega
    rw [this, q]
  intro n
  rw [at_, at_, Int.add_emod_right]
theorem of_per {l : List Bool} {d : Nat} (hd : 0 < d) (h : Per (cyc l) d) (hdl : d ≤ l.length) : ∀ k, k < l.length → l.getD k false = l.getD (k % d) false := by
  intro k hk
  have hlt := Nat.mod_lt k hd
  rw [← cyc_lt hk, ← cyc_lt (show k % d < l.length by omega)]
  have := h.mod (k : Int)
  rw [← this]; push_cast; rfl
/-- the same by shifts: what stands d further is alike -/
theorem shift_of {l : List Bool} {d : Nat} (hd : 0 < d) (h : ∀ k, k + d < l.length → l.getD (k + d) false = l.getD k false) : ∀ k, k < l.length → l.getD k false = l.getD (k % d) false := by
  intro k
  induction k using Nat.strongRecOn with
  | ind k ih =>
    intro hk
    rcases Nat.lt_or_ge k d with q | q
    · rw [Nat.mod_eq_of_lt q]
    · have e : k = (k - d) + d := by omega
      have := h (k - d) (by omega)
      rw [← e] at this
      rw [this, ih (k - d) (by omega) (by omega), e, Nat.add_mod_right]
      congr 2; omega
/-! ### a telling -/
structure Tl where
  lo : Int
  cs : List Bool
  us : List Bool
  ds : List Bool
def Tl.m (T : Tl) : Nat := T.us.length
def Tl.hi (T : Tl) : Int := T.lo + T.cs.length - 1
def Tl.U (T : Tl) : Int → Bool := cyc T.us
def Tl.D (T : Tl) : Int → Bool := cyc T.ds
def Tl.has (T : Tl) (n : Int) : Bool := if n < T.lo then T.D n else if T.hi < n then T.U n else T.cs.getD (n - T.lo).toNat false
structure Tl.Ok (T : Tl) : Prop where
  len : T.ds.length = T.us.length
  pos : 0 < T.us.length
theorem Tl.Ok.pu {T : Tl} (h : T.Ok) : Per T.U T.m := cyc_per
theorem Tl.Ok.pd {T : Tl} (h : T.Ok) : Per T.D T.m := by
  have := cyc_per (l := T.ds)
  rw [h.len] at this
  exact this
structure IsForm (h U D : Int → Bool) (lo hi : Int) (d : Nat) : Prop where
  least : Least U D d
  ends : ((∀ n, h n = U n) ∧ (∀ n, h n = D n) ∧ lo = 0 ∧ hi = -1) ∨
    (h hi ≠ U hi ∧ (∀ n, hi < n → h n = U n) ∧ lo ≤ hi + 1 ∧ (∀ n, n < lo → h n = D n) ∧ (lo = hi + 1 ∨ h lo ≠ D lo))
theorem IsForm.unique {h U D : Int → Bool} {lo hi lo' hi' : Int} {d d' : Nat} (a : IsForm h U D lo hi d) (b : IsForm h U D lo' hi' d') : lo = lo' ∧ hi = hi' ∧ d = d' := by
  refine ⟨?_, ?_, a.least.unique b.least⟩ <;> rcases a.ends with ⟨a1, a2, a3, a4⟩ | ⟨a1, a2, a3, a4, a5⟩ <;> rcases b.ends with ⟨b1, b2, b3, b4⟩ | ⟨b1, b2, b3, b4, b5⟩
  · omega
  · exact absurd (a1 _) b1
  · exact absurd (b1 _) a1
  · have e : hi = hi' := by
      rcases Int.lt_trichotomy hi hi' with q | q | q
      · exact absurd (a2 _ q) b1
      · exact q
      · exact absurd (b2 _ q) a1
    subst e
    rcases Int.lt_trichotomy lo lo' with q | q | q
    · rcases a5 with a5 | a5
      · omega
      · exact absurd (b4 _ q) a5
    · exact q
    · rcases b5 with b5 | b5
      · omega
      · exact absurd (a4 _ q) b5
  · omega
  · exact absurd (a1 _) b1
  · exact absurd (b1 _) a1
  · rcases Int.lt_trichotomy hi hi' with q | q | q
    · exact absurd (a2 _ q) b1
    · exact q
    · exact absurd (b2 _ q) a1
theorem IsForm.above {h U D : Int → Bool} {lo hi : Int} {d : Nat} (a : IsForm h U D lo hi d) {n : Int} (hn : hi < n) : h n = U n := by
  rcases a.ends with e | e
  · exact e.1 n
  · exact e.2.1 n hn
theorem IsForm.below {h U D : Int → Bool} {lo hi : Int} {d : Nat} (a : IsForm h U D lo hi d) {n : Int} (hn : n < lo) : h n = D n := by
  rcases a.ends with e | e
  · exact e.2.1 n
  · exact e.2.2.2.1 n hn
theorem IsForm.size {h U D : Int → Bool} {lo hi : Int} {d : Nat} (a : IsForm h U D lo hi d) : lo ≤ hi + 1 := by
  rcases a.ends with e | e
  · omega
  · exact e.2.2.1
/-! ### what holds of a telling beyond its window -/
theorem Tl.above {T : Tl} {n : Int} (h : T.hi < n) : T.has n = T.U n := by
  unfold Tl.has Tl.hi at *
  rw [if_neg (by omega), if_pos (by omega)]
theorem Tl.below {T : Tl} {n : Int} (h : n < T.lo) : T.has n = T.D n := by
  unfold Tl.has
  rw [if_pos h]
theorem Tl.core {T : Tl} {n : Int} (h : T.lo ≤ n) (h2 : n ≤ T.hi) : T.has n = T.cs.getD (n - T.lo).toNat false := by
  unfold Tl.has; rw [if_neg (by omega), if_neg (by omega)]
/-- a function that is alike on m numbers in a row below is alike below -/
theorem Tl.all_above {T : Tl} (ok : T.Ok) {a : Int} (ha : a ≤ T.lo) (h : ∀ n, a - T.m ≤ n → n < a → T.has n = T.U n) : ∀ n, n < a → T.has n = T.U n := by
  intro n hn
  have hm : (0 : Int) < (T.m : Int) := by have := ok.pos; unfold Tl.m; omega
  rw [Tl.below (show n < T.lo by omega)]
  have k0 := Int.emod_nonneg (n - (a - T.m)) (by omega : (T.m : Int) ≠ 0)
  have k1 := Int.emod_lt_of_pos (n - (a - T.m)) hm
  have q := h ((a - T.m) + (n - (a - T.m)) % (T.m : Int)) (by omega) (by omega)
  rw [Tl.below (by omega)] at q
  have cg : ((a - T.m) + (n - (a - T.m)) % (T.m : Int)) % (T.m : Int) = n % (T.m : Int) := by
    rw [Int.add_emod_emod]; congr 1; omega
  rw [ok.pd.cong cg, ok.pu.cong cg] at q
  exact q
end My
set_option linter.all false
namespace My
/-- n irow in a row from lo -/
def irow (lo : Int) (n : Nat) : List Int := (List.range n).map fun k => lo + (k : Nat)
theorem irow_succ (lo : Int) (n : Nat) : irow lo (n + 1) = irow lo n ++ [lo + (n : Nat)] := by
  unfold irow
  rw [List.range_succ, List.map_append]
  rfl
theorem mem_irow {lo x : Int} {n : Nat} : x ∈ irow lo n ↔ lo ≤ x ∧ x < lo + n := by
  unfold irow
  rw [List.mem_map]
  constructor
  · rintro ⟨k, hk, rfl⟩
    have := List.mem_range.mp hk
    omega
  · intro h
    exact ⟨(x - lo).toNat, List.mem_range.mpr (by omega), by omega⟩
def fil (P : Int → Bool) (lo : Int) (n : Nat) : List Int := (irow lo n).filter P
theorem fil_zero (P : Int → Bool) (lo : Int) : fil P lo 0 = [] := rfl
theorem fil_succ (P : Int → Bool) (lo : Int) (n : Nat) : fil P lo (n + 1) = fil P lo n ++ (if P (lo + (n : Nat)) = true then [lo + (n : Nat)] else []) := by
  unfold fil
  rw [irow_succ, List.filter_append]
  congr 1
  by_cases h : P (lo + (n : Nat)) = true
  · rw [if_pos h, List.filter_cons_of_pos h]; rfl
  · rw [if_neg h, List.filter_cons_of_neg h]; rfl
theorem fil_pos {P : Int → Bool} {lo : Int} {n : Nat} (h : P (lo + (n : Nat)) = true) : fil P lo (n + 1) = fil P lo n ++ [lo + (n : Nat)] := by
  rw [fil_succ, if_pos h]
theorem fil_neg {P : Int → Bool} {lo : Int} {n : Nat} (h : ¬ P (lo + (n : Nat)) = true) : fil P lo (n + 1) = fil P lo n := by
  rw [fil_succ, if_neg h, List.append_nil]
theorem mem_fil {P : Int → Bool} {lo x : Int} {n : Nat} : x ∈ fil P lo n ↔ (lo ≤ x ∧ x < lo + n) ∧ P x = true := by
  unfold fil
  rw [List.mem_filter, mem_irow]
theorem fil_len (P : Int → Bool) (lo : Int) (n : Nat) : (fil P lo n).length ≤ n := by
  unfold fil
  refine Nat.le_trans (List.length_filter_le _ _) ?_
  unfold irow
  simp
theorem fil_cong {P Q : Int → Bool} {lo : Int} {n : Nat} (h : ∀ x, lo ≤ x → x < lo + n → P x = Q x) : fil P lo n = fil Q lo n := by
  unfold fil
  refine List.filter_congr fun x hx => ?_
  have := mem_irow.mp hx
  exact h x this.1 this.2
theorem irow_asc (lo : Int) : ∀ n, (irow lo n).Pairwise (· < ·)
  | 0 => List.Pairwise.nil
  | n + 1 => by
    rw [irow_succ, List.pairwise_append]
    refine ⟨irow_asc lo n, List.pairwise_singleton _ _, fun a ha b hb => ?_⟩
    have h1 := mem_irow.mp ha
    rw [List.mem_singleton.mp hb]
    omega
theorem fil_asc (P : Int → Bool) (lo : Int) (n : Nat) : (fil P lo n).Pairwise (· < ·) := (irow_asc lo n).filter _
theorem fil_nodup (P : Int → Bool) (lo : Int) (n : Nat) : (fil P lo n).Nodup := (fil_asc P lo n).imp fun h => Int.ne_of_lt h
/-- the first and the last that P takes -/
theorem fil_first {P : Int → Bool} {lo : Int} {n : Nat} (hx : ∃ x, lo ≤ x ∧ x < lo + n ∧ P x = true) : ∃ v, (fil P lo n)[0]? = some v ∧ lo ≤ v ∧ v < lo + n ∧ P v = true ∧ ∀ x, lo ≤ x → x < v → P x = false := by
  obtain ⟨x, h1, h2, h3⟩ := hx
  have hm := mem_fil.mpr ⟨⟨h1, h2⟩, h3⟩
  have asc := fil_asc P lo n
  cases e : fil P lo n with
  | nil => rw [e] at hm; cases hm
  | cons v r =>
    rw [e] at asc
    have hv : v ∈ fil P lo n := by rw [e]; exact List.mem_cons_self
    have hv := mem_fil.mp hv
    refine ⟨v, rfl, hv.1.1, hv.1.2, hv.2, fun y hy hlt => ?_⟩
    cases q : P y with
    | false => rfl
    | true =>
      have hy2 : y ∈ fil P lo n := mem_fil.mpr ⟨⟨hy, by omega⟩, q⟩
      rw [e] at hy2
      rcases List.mem_cons.mp hy2 with z | z
      · omega
      · have := (List.pairwise_cons.mp asc).1 y z
        omega
theorem fil_last {P : Int → Bool} {lo : Int} {n : Nat} (hx : fil P lo n ≠ []) : ∃ r v, fil P lo n = r ++ [v] ∧ lo ≤ v ∧ v < lo + n ∧ P v = true ∧ ∀ x, v < x → x < lo + n → P x = false := by
  have asc := fil_asc P lo n
  refine ⟨(fil P lo n).dropLast, (fil P lo n).getLast hx, (List.dropLast_concat_getLast hx).symm, ?_⟩
  have hv := mem_fil.mp (List.getLast_mem hx)
  refine ⟨hv.1.1, hv.1.2, hv.2, fun y hlt hy => ?_⟩
  cases q : P y with
  | false => rfl
  | true =>
    have hy2 : y ∈ fil P lo n := mem_fil.mpr ⟨⟨by omega, hy⟩, q⟩
    rw [← List.dropLast_concat_getLast hx] at hy2 asc
    rcases List.mem_append.mp hy2 with z | z
    · have := (List.pairwise_append.mp asc).2.2 y z _ (List.mem_singleton.mpr rfl)
      omega
    · have := List.mem_singleton.mp z
      omega
theorem fil_nil {P : Int → Bool} {lo : Int} {n : Nat} (h : fil P lo n = []) : ∀ x, lo ≤ x → x < lo + n → P x = false := by
  intro x h1 h2
  cases q : P x with
  | false => rfl
  | true =>
    have := mem_fil.mpr ⟨⟨h1, h2⟩, q⟩
    rw [h] at this
    cases this
/-- the places of the flags -/
def res (bs : List Bool) : List Int := fil (fun k => bs.getD k.toNat false) 0 bs.length
theorem mem_res {bs : List Bool} {x : Int} : x ∈ res bs ↔ (0 ≤ x ∧ x < bs.length) ∧ bs.getD x.toNat false = true := by
  unfold res
  rw [mem_fil, Int.zero_add]
theorem rep_flat {α : Type} (x : α) : ∀ n, (List.replicate n [x]).flatten = List.replicate n x
  | 0 => rfl
  | n + 1 => by
    rw [List.replicate_succ, List.flatten_cons, rep_flat x n, List.replicate_succ]
    rfl
end My
set_option linter.all false
namespace My
theorem per_shift {l : List Bool} {d : Nat} (h : Per (cyc l) d) : ∀ k, k + d < l.length → l.getD (k + d) false = l.getD k false := by
  intro k hk
  rw [← cyc_lt hk, ← cyc_lt (show k < l.length by omega)]
  have := h (k : Int)
  rw [← this]; congr 1
theorem cut_shift {l : List Bool} {d : Nat} (hd : d ≤ l.length) : (l.drop d = l.take (l.length - d)) ↔ ∀ k, k + d < l.length → l.getD (k + d) false = l.getD k false := by
  constructor
  · intro h k hk
    have h1 : (l.drop d)[k]? = l[k + d]? := by rw [List.getElem?_drop, Nat.add_comm]
    have h2 : (l.take (l.length - d))[k]? = l[k]? := by rw [List.getElem?_take]; rw [if_pos (by omega)]
    rw [List.getD_eq_getElem?_getD, List.getD_eq_getElem?_getD, ← h1, ← h2, h]
  · intro h
    refine List.ext_getElem (by rw [List.length_drop, List.length_take]; omega) fun k h1 h2 => ?_
    rw [List.length_drop] at h1
    have := h k (by omega)
    rw [List.getElem_drop, List.getElem_take]
    rw [List.getD_eq_getElem?_getD, List.getD_eq_getElem?_getD, List.getElem?_eq_getElem (by omega), List.getElem?_eq_getElem (by omega)] at this
    simpa [Nat.add_comm] using this
theorem shift_per {l : List Bool} {d : Nat} (hd : 0 < d) (hm : l.length % d = 0) (h : ∀ k, k + d < l.length → l.getD (k + d) false = l.getD k false) : Per (cyc l) d := per_of hd hm (shift_of hd h)
theorem cyc_take {l : List Bool} {d : Nat} (hd : 0 < d) (hl : d ≤ l.length) (h : Per (cyc l) d) : cyc (l.take d) = cyc l := by
  funext n
  have hlen : (l.take d).length = d := by rw [List.length_take]; omega
  have k0 := Int.emod_nonneg n (by omega : (d : Int) ≠ 0)
  have k1 := Int.emod_lt_of_pos n (by omega : (0 : Int) < (d : Int))
  rw [← h.mod n]
  conv => lhs; unfold cyc
  rw [hlen]
  have e : n % (d : Int) = (((n % (d : Int)).toNat : Nat) : Int) := by omega
  have : cyc l (n % (d : Int)) = l.getD (n % (d : Int)).toNat false := by
    have q := cyc_lt (l := l) (k := (n % (d : Int)).toNat) (by omega)
    rw [← e] at q
    exact q
  rw [this, List.getD_eq_getElem?_getD, List.getD_eq_getElem?_getD, List.getElem?_take, if_pos (by omega)]
/-- the least one among those that divide -/
theorem least_by {U D : Int → Bool} {m d : Nat} (hm : 0 < m) (pu : Per U m) (pd : Per D m) (hd : 0 < d) (du : Per U d) (dd : Per D d) (h : ∀ e, 0 < e → e < d → m % e = 0 → Per U e → Per D e → False) : Least U D d := by
  obtain ⟨p, hp⟩ := least_ex m hm pu pd
  refine ⟨hd, du, dd, fun e he eu ed => ?_⟩
  rcases Nat.lt_or_ge p d with q | q
  · exact (h p hp.pos q (hp.dvd hm pu pd) hp.pu hp.pd).elim
  · exact Nat.le_trans q (hp.le e he eu ed)
/-- where the sides part -/
theorem Tl.parts {T : Tl} (ok : T.Ok) (h : ∃ n, T.has n ≠ T.U n) (hc : ∀ n, T.lo ≤ n → n ≤ T.hi → T.has n = T.D n) : ∃ w, T.hi < w ∧ w ≤ T.hi + T.m ∧ T.U w ≠ T.D w := by
  refine Classical.byContradiction fun no => ?_
  have all : ∀ n, T.U n = T.D n := by
    intro n
    have hm : (0 : Int) < (T.m : Int) := by have := ok.pos; unfold Tl.m; omega
    have k0 := Int.emod_nonneg (n - (T.hi + 1)) (by omega : (T.m : Int) ≠ 0)
    have k1 := Int.emod_lt_of_pos (n - (T.hi + 1)) hm
    have cg : ((T.hi + 1) + (n - (T.hi + 1)) % (T.m : Int)) % (T.m : Int) = n % (T.m : Int) := by
      rw [Int.add_emod_emod]; congr 1; omega
    have q : T.U ((T.hi + 1) + (n - (T.hi + 1)) % (T.m : Int)) = T.D ((T.hi + 1) + (n - (T.hi + 1)) % (T.m : Int)) := by
      refine Classical.byContradiction fun z => no ⟨_, ?_, ?_, z⟩ <;> omega
    rw [ok.pu.cong cg, ok.pd.cong cg] at q
    exact q
  obtain ⟨n, hn⟩ := h
  refine hn ?_
  rcases Int.lt_or_le n T.lo with q | q
  · rw [Tl.below q, all]
  · rcases Int.lt_or_le T.hi n with q2 | q2
    · exact Tl.above q2
    · rw [hc n q q2, all]
/-- the form from its two ends -/
theorem form_none {T : Tl} (ok : T.Ok) {d : Nat} (hd : Least T.U T.D d) (h : ∀ n, T.has n = T.U n) : IsForm T.has T.U T.D 0 (-1) d := by
  refine ⟨hd, .inl ⟨h, fun n => ?_, rfl, rfl⟩⟩
  -- below lo: has = D, and has = U: so U = D there, so everywhere
  have hm : (0 : Int) < (T.m : Int) := by have := ok.pos; unfold Tl.m; omega
  have k0 := Int.emod_nonneg (n - T.lo) (by omega : (T.m : Int) ≠ 0)
  have k1 := Int.emod_lt_of_pos (n - T.lo) hm
  have cg : ((T.lo - T.m) + (n - T.lo) % (T.m : Int)) % (T.m : Int) = n % (T.m : Int) := by
    rw [Int.add_emod_emod]
    have : T.lo - (T.m : Int) + (n - T.lo) = n - (T.m : Int) := by omega
    rw [this, Int.sub_emod_right]
  have q := h ((T.lo - T.m) + (n - T.lo) % (T.m : Int))
  rw [Tl.below (by omega)] at q
  rw [ok.pd.cong cg, ok.pu.cong cg] at q
  rw [h n, q]
theorem form_some {T : Tl} {d : Nat} {v b : Int} (hd : Least T.U T.D d) (h1 : T.has v ≠ T.U v) (h2 : ∀ n, v < n → T.has n = T.U n) (h3 : T.has b ≠ T.D b) (h4 : ∀ n, n < b → T.has n = T.D n) :
    IsForm T.has T.U T.D (if v + 1 < b then v + 1 else b) v d := by
  refine ⟨hd, .inr ⟨h1, h2, by split <;> omega, fun n hn => h4 n (by split at hn <;> omega), ?_⟩⟩
  split
  · exact .inl rfl
  · exact .inr h3
end My
set_option linter.all false
namespace My
def rep (k : Nat) (l : List Bool) : List Bool := (List.replicate k l).flatten
theorem rep_len (l : List Bool) : ∀ k, (rep k l).length = k * l.length
  | 0 => by simp [rep]
  | k + 1 => by
    unfold rep
    rw [List.replicate_succ, List.flatten_cons, List.length_append]
    have := rep_len l k
    unfold rep at this
    rw [this, Nat.succ_mul]; omega
theorem rep_get (l : List Bool) (hl : 0 < l.length) : ∀ (k i : Nat), i < k * l.length → (rep k l).getD i false = l.getD (i % l.length) false
  | 0, i, h => by omega
  | k + 1, i, h => by
    have e : rep (k + 1) l = l ++ rep k l := by unfold rep; rw [List.replicate_succ, List.flatten_cons]
    rw [e, List.getD_eq_getElem?_getD]
    rcases Nat.lt_or_ge i l.length with q | q
    · rw [List.getElem?_append_left q, Nat.mod_eq_of_lt q, List.getD_eq_getElem?_getD]
    · rw [List.getElem?_append_right q, ← List.getD_eq_getElem?_getD, rep_get l hl k (i - l.length) (by rw [Nat.succ_mul] at h; omega)]
      congr 1
      conv => rhs; rw [show i = (i - l.length) + l.length by omega, Nat.add_mod_right]
theorem cyc_rep {l : List Bool} {k : Nat} (hk : 0 < k) (hl : 0 < l.length) : cyc (rep k l) = cyc l := by
  funext n
  have hkl : 0 < k * l.length := Nat.mul_pos hk hl
  have k0 := Int.emod_nonneg n (by omega : ((k * l.length : Nat) : Int) ≠ 0)
  have k1 := Int.emod_lt_of_pos n (by omega : (0 : Int) < ((k * l.length : Nat) : Int))
  unfold cyc
  rw [rep_len, rep_get l hl k _ (by omega)]
  congr 1
  have q : (n % ((k * l.length : Nat) : Int)) % (l.length : Int) = n % (l.length : Int) := by
    rw [Int.natCast_mul]
    exact Int.emod_emod_of_dvd n ⟨(k : Int), by rw [Int.mul_comm]⟩
  rw [← q]
  have e : n % ((k * l.length : Nat) : Int) = (((n % ((k * l.length : Nat) : Int)).toNat : Nat) : Int) := by omega
  conv => rhs; rw [e, ← Int.natCast_emod, Int.toNat_natCast]
/-- the same told again with a greater modulus and a wider core -/
def Tl.wide (T : Tl) (k l r : Nat) : Tl := ⟨T.lo - l, (List.range (T.cs.length + l + r)).map fun i => T.has (T.lo - l + (i : Nat)), rep k T.us, rep k T.ds⟩
theorem wide_U {T : Tl} {k l r : Nat} (ok : T.Ok) (hk : 0 < k) : (T.wide k l r).U = T.U := cyc_rep hk ok.pos
theorem wide_D {T : Tl} {k l r : Nat} (ok : T.Ok) (hk : 0 < k) : (T.wide k l r).D = T.D := cyc_rep hk (by rw [ok.len]; exact ok.pos)
theorem wide_ok {T : Tl} {k l r : Nat} (ok : T.Ok) (hk : 0 < k) : (T.wide k l r).Ok := ⟨by show (rep k T.ds).length = (rep k T.us).length; rw [rep_len, rep_len, ok.len], by show 0 < (rep k T.us).length; rw [rep_len]; exact Nat.mul_pos hk ok.pos⟩
theorem wide_hi {T : Tl} {k l r : Nat} : (T.wide k l r).hi = T.hi + r := by
  show T.lo - l + (((List.range (T.cs.length + l + r)).map fun i => T.has (T.lo - l + (i : Nat))).length : Int) - 1 = T.lo + T.cs.length - 1 + r
  rw [List.length_map, List.length_range]; push_cast
  omega
theorem wide_has {T : Tl} {k l r : Nat} (ok : T.Ok) (hk : 0 < k) : (T.wide k l r).has = T.has := by
  funext n
  have hlo : (T.wide k l r).lo = T.lo - l := rfl
  have hhi := wide_hi (T := T) (k := k) (l := l) (r := r)
  have hh : T.hi = T.lo + T.cs.length - 1 := rfl
  rcases Int.lt_or_le n (T.lo - l) with q | q
  · rw [Tl.below (by rw [hlo]; exact q), wide_D ok hk, Tl.below (by omega)]
  · rcases Int.lt_or_le (T.hi + r) n with q2 | q2
    · rw [Tl.above (by rw [hhi]; exact q2), wide_U ok hk, Tl.above (by omega)]
    · rw [Tl.core (by rw [hlo]; exact q) (by rw [hhi]; exact q2)]
      show ((List.range (T.cs.length + l + r)).map fun i => T.has (T.lo - l + (i : Nat))).getD (n - (T.lo - l)).toNat false = _
      have : (n - (T.lo - l)).toNat < T.cs.length + l + r := by omega
      rw [List.getD_eq_getElem?_getD, List.getElem?_map, List.getElem?_range this]
      show T.has (T.lo - l + ((n - (T.lo - l)).toNat : Nat)) = T.has n
      congr 1
      omega
/-! ### the law's own form -/
def okD (T : Tl) (d : Int) : Bool := decide ((T.us.length : Int) % d = 0) && ((List.range T.us.length).map fun k => decide (T.us.getD k false = cycD T.us k d) && decide (T.ds.getD k false = cycD T.ds k d)).all id
  where cycD (l : List Bool) (k : Nat) (d : Int) : Bool := l.getD ((k : Int) % d).toNat false
theorem all_ids {f : Nat → Bool} {m : Nat} : ((List.range m).map f).all id = true ↔ ∀ k, k < m → f k = true := by
  rw [List.all_eq_true]
  constructor
  · intro h k hk
    exact h _ (List.mem_map.mpr ⟨k, List.mem_range.mpr hk, rfl⟩)
  · rintro h x hx
    obtain ⟨k, hk, rfl⟩ := List.mem_map.mp hx
    exact h k (List.mem_range.mp hk)
theorem okD_iff {T : Tl} (ok : T.Ok) {d : Nat} (hd : 0 < d) (hm : d ≤ T.us.length) : okD T d = true ↔ (T.us.length % d = 0 ∧ Per T.U d ∧ Per T.D d) := by
  unfold okD
  rw [Bool.and_eq_true, all_ids, decide_eq_true_iff]
  have e : ∀ (l : List Bool) (k : Nat), okD.cycD l k (d : Int) = l.getD (k % d) false := fun l k => by
    unfold okD.cycD
    congr 1
  constructor
  · rintro ⟨h1, h2⟩
    have h1' : T.us.length % d = 0 := by exact_mod_cast h1
    refine ⟨h1', per_of hd h1' fun k hk => ?_, per_of hd (by rw [ok.len]; exact h1') fun k hk => ?_⟩
    · have := Bool.and_eq_true_iff.mp (h2 k hk)
      rw [← e]
      exact of_decide_eq_true this.1
    · rw [ok.len] at hk
      have := Bool.and_eq_true_iff.mp (h2 k hk)
      rw [← e]
      exact of_decide_eq_true this.2
  · rintro ⟨h1, h2, h3⟩
    refine ⟨by exact_mod_cast h1, fun k hk => Bool.and_eq_true_iff.mpr ⟨decide_eq_true ?_, decide_eq_true ?_⟩⟩
    · rw [e]
      exact of_per hd h2 hm k hk
    · rw [e]
      exact of_per hd h3 (by rw [ok.len]; exact hm) k (by rw [ok.len]; exact hk)
theorem size_first {T : Tl} (ok : T.Ok) : ∃ d : Nat, (fil (okD T) 1 T.us.length)[0]? = some (d : Int) ∧ d ≤ T.us.length ∧ Least T.U T.D d := by
  have hm := ok.pos
  have self : okD T (T.us.length : Nat) = true := (okD_iff ok hm (Nat.le_refl _)).mpr ⟨Nat.mod_self _, ok.pu, ok.pd⟩
  obtain ⟨v, h0, h1, h2, h3, h4⟩ := fil_first (P := okD T) (lo := 1) (n := T.us.length) ⟨(T.us.length : Int), by omega, by omega, self⟩
  obtain ⟨d, rfl⟩ := Int.eq_ofNat_of_zero_le (by omega : 0 ≤ v)
  have h3' := (okD_iff ok (by omega) (by omega)).mp h3
  refine ⟨d, h0, by omega, least_by hm ok.pu ok.pd (by omega) h3'.2.1 h3'.2.2 fun e he hlt hd pu pd => ?_⟩
  have := h4 (e : Int) (by omega) (by omega)
  rw [(okD_iff ok he (by omega)).mpr ⟨hd, pu, pd⟩] at this
  cases this
/-- the window shows all -/
theorem tops_nil {T : Tl} (ok : T.Ok) (h : fil (fun n => !decide (T.has n = T.U n)) (T.lo - T.us.length) (T.cs.length + T.us.length + T.us.length) = []) : ∀ n, T.has n = T.U n := by
  have hm : T.m = T.us.length := rfl
  have hh : T.hi = T.lo + T.cs.length - 1 := rfl
  have w : ∀ n, T.lo - T.us.length ≤ n → n ≤ T.hi + T.us.length → T.has n = T.U n := fun n h1 h2 => by
    have := fil_nil h n h1 (by push_cast; omega)
    simpa using this
  intro n
  rcases Int.lt_or_le n T.lo with q | q
  · exact Tl.all_above ok (Int.le_refl _) (fun n h1 h2 => w n (by omega) (by omega)) n q
  · rcases Int.lt_or_le T.hi n with q2 | q2
    · exact Tl.above q2
    · exact w n (by omega) (by omega)
theorem tops_last {T : Tl} (ok : T.Ok) {r : List Int} {v : Int} (h : fil (fun n => !decide (T.has n = T.U n)) (T.lo - T.us.length) (T.cs.length + T.us.length + T.us.length) = r ++ [v]) : T.has v ≠ T.U v ∧ (∀ n, v < n → T.has n = T.U n) ∧ T.lo - T.us.length ≤ v ∧ v ≤ T.hi := by
  have hh : T.hi = T.lo + T.cs.length - 1 := rfl
  obtain ⟨r', v', h1, h2, h3, h4, h5⟩ := fil_last (P := fun n => !decide (T.has n = T.U n)) (lo := T.lo - T.us.length) (n := T.cs.length + T.us.length + T.us.length) (by rw [h]; simp)
  rw [h] at h1
  have e : v = v' := by
    have := congrArg List.getLast? h1
    simpa using this
  subst e
  have h4' : T.has v ≠ T.U v := by simpa using h4
  have hv : v ≤ T.hi := by
    rcases Int.lt_or_le T.hi v with q | q
    · exact absurd (Tl.above q) h4'
    · exact q
  refine ⟨h4', fun n hn => ?_, h2, hv⟩
  rcases Int.lt_or_le T.hi n with q | q
  · exact Tl.above q
  · have := h5 n hn (by push_cast; omega)
    simpa using this
theorem bottoms_first {T : Tl} (ok : T.Ok) (ex : ∃ n, T.has n ≠ T.U n) : ∃ b, (fil (fun n => !decide (T.has n = T.D n)) (T.lo - T.us.length) (T.cs.length + T.us.length + T.us.length))[0]? = some b ∧ T.has b ≠ T.D b ∧ (∀ n, n < b → T.has n = T.D n) ∧ T.lo ≤ b := by
  have hh : T.hi = T.lo + T.cs.length - 1 := rfl
  have hm : T.m = T.us.length := rfl
  have hx : ∃ x, T.lo - T.us.length ≤ x ∧ x < T.lo - T.us.length + ((T.cs.length + T.us.length + T.us.length : Nat) : Int) ∧ (!decide (T.has x = T.D x)) = true := by
    refine Classical.byContradiction fun no => ?_
    have all : ∀ n, T.lo ≤ n → n ≤ T.hi + T.us.length → T.has n = T.D n := fun n h1 h2 => by
      refine Classical.byContradiction fun z => no ⟨n, by omega, by push_cast; omega, by simpa using z⟩
    obtain ⟨w, w1, w2, w3⟩ := Tl.parts ok ex fun n h1 h2 => all n h1 (by omega)
    refine w3 ?_
    rw [← Tl.above w1]
    exact all w (by omega) (by omega)
  obtain ⟨b, h0, h1, h2, h3, h4⟩ := fil_first hx
  have h3' : T.has b ≠ T.D b := by simpa using h3
  have hb : T.lo ≤ b := by
    rcases Int.lt_or_le b T.lo with q | q
    · exact absurd (Tl.below q) h3'
    · exact q
  refine ⟨b, h0, h3', fun n hn => ?_, hb⟩
  rcases Int.lt_or_le n T.lo with q | q
  · exact Tl.below q
  · have := h4 n (by omega) hn
    simpa using this
end My
set_option Elab.async false
set_option linter.all false
set_option maxRecDepth 100000
set_option maxHeartbeats 8000000
/-! common words of the proofs -/
namespace My
open PySem PySem.Spec PyProof.Rows L2
def top (i : Nat) : Stmt := PySem.Challenge.pw_truebooks_k02_lots_moved_turned_and_rest.main.body.getD i (.Pass ⟨0, 0, 0, 0⟩)
/-- the def at the module's name x keeps its promise -/
def Keeps (CX : CXT) (P : Program) (w : World) (K : PySem.W.Frag) (mg : Str → Option Value) (base : Heap) (x : Str) (k : Nat) (ps : List Str) (sp : Sp) : Prop :=
  ∃ fd, FnOk P w K mg base CX k (He.ga K x) fd ps sp ∧ Binds K fd ps [] ∧ PySem.W.keepIn K (.ref (He.ga K x)) = true ∧ mg x = some (.ref (He.ga K x))
theorem pe_k {X : Cx} {CX : CXT} {k : Nat} {ps : List Str} {sp : Sp} {E : XK} {x : Str} {p pos : Pos} {e : Expr} {es : List Expr} {t : TA} (h : Keeps CX X.prog X.w X.K X.mg X.base x k ps sp) (hr : Room k X.A) (hg : Gl X x) (hx : Passes CX X E)
    (ha : PA X (e :: es) t) (dbg : (x == ("__debug__" : Str)) = false := by decide) (hst : starEach (e :: es) X.env = (false, eval e X.env) :: starEach es X.env := by rfl) (hpl : (backTo pos (starEach es X.env)).any (·.1) = false := by rfl) :
    PE X (.Call (.Name x p) (e :: es) [] pos) (tCall sp [] E t) := by
  obtain ⟨fd, F, b, kp, m⟩ := h
  exact pe_call F hr hg m kp b .nil hx ha dbg hst hpl
/-- a def of the top, as it stands -/
def At (K : PySem.W.Frag) (mg : Str → Option Value) (x : Str) (st : Stmt) : Prop := mg x = some (.ref (He.ga K x)) ∧ ∃ fd, FunD K x x (defArgs st) (defBody st) (defScope st) [] [] (He.ga K x) fd
abbrev bindsBy (st : Stmt) (x : Str) (ps : List Str) : Prop := ∀ (kV doc pm : Value) (an : Option Addr) (cdv ct : Value) (us : List Value), us.length = ps.length → bindArgs (PySem.W.fnOf x x (defArgs st) (defBody st) (defScope st) .none kV doc pm an cdv ct) ⟨us, []⟩ = pure (ps.zip us)
section
variable {CX : CXT} {P : Program} {w : World} {K : PySem.W.Frag} {mg : Str → Option Value} {base : Heap}
theorem keeps_ofX {x : Str} {st : Stmt} {N ps : List Str} {k : Nat} {sp : Sp} (F : At K mg x st) (S : FnScope N ps (defScope st)) (hb : bindsBy st x ps) (len : ∀ vs H Q E, sp vs H Q E → vs.length = ps.length)
    (hbody : ∀ (f : Addr) (cdv : Value) (A : Around) (outer : List Env) (s : Shared) (H : Hp) (vs : List V) (Q : VK) (E : XK), Room k (A.deeper (envOfC x (defScope st) s.heap.objs.size f cdv)) → sp vs H Q E →
      ∃ t, PSs (cxOf CX P w K mg base N x (defScope st) f cdv A outer s H E) (defBody st) t ∧ t { nx := fun _ H' => Q .non H', rt := Q } (start N vs) H) : Keeps CX P w K mg base x (k + 1) ps sp := by
  obtain ⟨m, fd, F⟩ := F
  exact ⟨fd, F.ok S len (hbody _), F.bindsN hb, F.kp, m⟩
theorem keeps_of {x : Str} {st : Stmt} {N ps : List Str} {k : Nat} {sp : Sp} (F : At K mg x st) (S : FnScope N ps (defScope st)) (hb : bindsBy st x ps) (len : ∀ vs H Q E, sp vs H Q E → vs.length = ps.length)
    (hbody : ∀ (f : Addr) (cdv : Value) (A : Around) (outer : List Env) (s : Shared) (H : Hp) (vs : List V) (Q : VK) (E : XK), Room k (A.deeper (envOfC x (defScope st) s.heap.objs.size f cdv)) → sp vs H Q E →
      ∃ t, PSs (cxOf CX0 P w K mg base N x (defScope st) f cdv A outer s H E).nox (defBody st) t ∧ t { nx := fun _ H' => Q .non H', rt := Q } (start N vs) H) : Keeps CX0 P w K mg base x (k + 1) ps sp :=
  keeps_ofX F S hb len fun f cdv A outer s H vs Q E hr h => by
    obtain ⟨t, h1, h2⟩ := hbody f cdv A outer s H vs Q E hr h
    exact ⟨t, h1.nox, h2⟩
end
/-- all but p as it was -/
def But (p : Addr) (H H' : Hp) : Prop := ∀ b o, b ≠ p → H b = some o → H' b = some o
/-- a hand of draws stands at p, its cells at c -/
def HandC (H : Hp) (p c : Addr) : Prop := ∃ (cs : List Int) (at_ rest total : Int), H p = some (.lst [.ref c, .int at_, .int rest, .int total]) ∧ H c = some (.lst (cs.map V.int)) ∧ 0 ≤ at_
local macro_rules | `(tactic| walk_at "lv") => `(tactic| first | exact Or.inl rfl | exact Or.inr rfl)
/-! ### _law_mix -/
def spMix : Sp := fun vs H Q _ => ∃ a b : Int, vs = [.int a, .int b] ∧ ∀ r : Int, Q (.int r) H
abbrev s_mix : Stmt := top 32
abbrev N_mix : List Str := ["_law_number", "_law_turn", "_law_once", "_law_twice"]
theorem sc_mix : FnScope N_mix ["_law_number", "_law_turn"] (defScope s_mix) := ⟨rfl, rfl, rfl, by decide +kernel, rfl, by decide +kernel, by decide +kernel⟩
section
variable {P : Program} {w : World} {K : PySem.W.Frag} {mg : Str → Option Value} {base : Heap}
theorem mod_lt31 {a m : Int} (h : 0 < m) (hm : m < 2 ^ 40) : -(2 ^ 64) < a % m ∧ a % m < 2 ^ 64 := by
  have h1 := Int.emod_nonneg a (b := m) (by omega)
  have h2 := Int.emod_lt_of_pos a h
  omega
theorem kp_mix (F : At K mg "_law_mix" s_mix) (nI : mg "int" = none) : Keeps CX0 P w K mg base "_law_mix" 1 ["_law_number", "_law_turn"] spMix := by
  refine keeps_of F sc_mix (fun _ _ _ _ _ _ us hl => match us, hl with | [_, _], _ => rfl) (fun vs H Q E h => ?_) (fun f cdv A outer s H vs Q E hr h => ?_)
  · obtain ⟨a, b, rfl, _⟩ := h
    rfl
  · obtain ⟨a, b, rfl, k⟩ := h
    refine ⟨_, (pss_cons (ps_set (i := 2) sc_mix.nd rfl (by walk_at "lv") (pe_op op_mod (pe_callTy call_int1 (by rfl) nI boot_int (pa_cons (pe_op op_add (pe_op op_add (pe_op op_mul (pv 0) pe_int) (pe_op op_mul (pv 1) pe_int)) pe_int) pa_nil)) pe_int))
        (pss_cons (ps_set (i := 3) sc_mix.nd rfl (by walk_at "lv") (pe_op op_mod (pe_callTy call_int1 (by rfl) nI boot_int (pa_cons (pe_op op_add (pe_op op_add (pe_op op_mul (pv 2) (pv 2)) (pe_op op_mul (pe_op op_fdiv (pv 2) pe_int) pe_int)) (pe_op op_mul (pv 1) pe_int)) pa_nil)) pe_int))
        (pss_one (ps_ret (pe_op op_fdiv (pe_op op_mod (pe_callTy call_int1 (by rfl) nI boot_int (pa_cons (pe_op op_add (pe_op op_fdiv (pe_op op_mul (pv 3) (pv 3)) pe_int) (pv 2)) pa_nil)) pe_int) pe_int))))), ?_⟩
    refine ⟨_, rfl, _, _, rfl, rfl, .inr ⟨by decide, by decide⟩, _, rfl, _, _, rfl, rfl, .inr ⟨by decide, by decide⟩, _, _, rfl, rfl, _, _, rfl, rfl, .inl ⟨_, rfl, _, _, rfl, rfl, (by show (0 : Int) < _; decide), ?_⟩⟩
    refine ⟨_, rfl, _, rfl, _, _, rfl, rfl, .inl (mod_lt31 (by decide) (by decide)), _, rfl, _, _, rfl, rfl, ⟨by decide, by decide⟩, _, _, rfl, rfl, .inr ⟨by decide, by decide⟩, _, _, rfl, rfl, _, rfl, _, _, rfl, rfl, .inr ⟨by decide, by decide⟩, _, _, rfl, rfl, .inl ⟨_, rfl, _, _, rfl, rfl, (by show (0 : Int) < _; decide), ?_⟩⟩
    refine ⟨_, rfl, _, rfl, _, _, rfl, rfl, .inl (mod_lt31 (by decide) (by decide)), _, _, rfl, rfl, ⟨by decide, by decide⟩, _, rfl, _, _, rfl, rfl, .inl ⟨_, rfl, _, _, rfl, rfl, (by show (0 : Int) < _; decide), _, _, rfl, rfl, ⟨by decide, by decide⟩, k _⟩⟩
/-! ### _law_hand -/
def spHand (K : PySem.W.Frag) : Sp := fun vs H Q _ => ∃ (a : Addr) (ns : List Int), vs = [.ref a] ∧ SqL K H a (ns.map V.int) ∧ ns.length ≤ 63 ∧ ∀ p c H', H p = none → H c = none → HandC H' p c → Same H H' → Q (.ref p) H'
abbrev s_hand : Stmt := top 33
abbrev N_hand : List Str := ["_law_script", "_law_total", "_law_at", "_law_cell"]
theorem sc_hand : FnScope N_hand ["_law_script"] (defScope s_hand) := ⟨rfl, rfl, rfl, by decide +kernel, rfl, by decide +kernel, by decide +kernel⟩
theorem int_at {ns : List Int} {i : Nat} {x : V} (h : (ns.map V.int)[i]? = some x) : ∃ z, ns[i]? = some z ∧ x = .int z := by
  rw [List.getElem?_map] at h
  cases e : ns[i]? with
  | none =>
    rw [e] at h
    cases h
  | some z =>
    rw [e] at h
    exact ⟨z, rfl, (Option.some.inj h).symm⟩
theorem kp_hand (F : At K mg "_law_hand" s_hand) (nI : mg "int" = none) (nE : mg "enumerate" = none) (nA : mg "abs" = none) : Keeps CX0 P w K mg base "_law_hand" 1 ["_law_script"] (spHand K) := by
  refine keeps_of F sc_hand (fun _ _ _ _ _ _ us hl => match us, hl with | [_], _ => rfl) (fun vs H Q E h => ?_) (fun f cdv A outer s H vs Q E hr h => ?_)
  · obtain ⟨a, ns, rfl, _⟩ := h
    rfl
  · obtain ⟨a, ns, rfl, hS, hlen, k⟩ := h
    refine ⟨_, (pss_cons (ps_set (i := 1) sc_hand.nd rfl (by walk_at "lv") pe_int)
        (pss_cons (ps_for PassesOwn.never rfl (pi_enum (by rfl) nE (pa_cons (pv 0) pa_nil)) (pg_tup (by rfl) (pgs_cons (pg_name (i := 2) sc_hand.nd rfl (by walk_at "lv")) (pgs_cons (pg_name (i := 3) sc_hand.nd rfl (by walk_at "lv")) pgs_nil))) (pss_one (ps_set (i := 1) sc_hand.nd rfl (by walk_at "lv") (pe_op op_mod (pe_callTy call_int1 (by rfl) nI boot_int (pa_cons (pe_op op_add (pe_op op_mul (pv 1) pe_int) (pe_op op_mul (pe_callTy call_int1 (by rfl) nI boot_int (pa_cons (pv 3) pa_nil)) (pe_op op_add (pe_op op_mul pe_int (pv 2)) pe_int))) pa_nil)) pe_int))))
        (pss_one (ps_ret (pe_lst (pa_cons (pe_lc (own := [("_law_cell", 3)]) (g := gName 3) (tt := tYes) rfl sc_hand.nd (pi_list (pv 0)) (blkOk_by (N := N_hand) (sc := defScope s_hand) (by decide +kernel)) (fun _ _ _ _ _ => (pg_name (i := 3) sc_hand.nd rfl (by walk_at "lv"))) (fun _ _ _ _ _ => pts_nil) (fun _ _ _ _ _ => (pe_callB call_abs (by rfl) nA boot_abs (pa_cons (pe_callTy call_int1 (by rfl) nI boot_int (pa_cons (pv 3) pa_nil)) pa_nil)))) (pa_cons pe_int (pa_cons pe_int (pa_cons (pv 1) pa_nil))))))))), ?_⟩
    refine ⟨_, rfl, a, _, rfl, hS, for_it walk_enum (fun i σ H2 => ∃ (t : Int) (x y : Option V), σ = [some (.ref a), some (.int t), x, y] ∧ Same H H2) ⟨17, none, none, rfl, Same.refl H⟩ (fun i σ H2 _ ⟨_, _, _, _, s2⟩ => s2.seq hS) ?_ ?_⟩
    · rintro i v σ H2 H3 hi ⟨t, x, y, rfl, s2⟩ ⟨T, u, z, rfl, nT, rfl, e1, e2⟩
      obtain ⟨n, hn, rfl⟩ := int_at e2
      cases Option.some.inj e1
      have hi63 : i < 63 := by
        rw [List.length_map] at hi
        omega
      have s3 : Same H (upd H2 T (.tup [V.int (i : Nat), V.int n])) := fun b o e => by
        rw [upd_ne (ne_of_none (s2 b o e) nT)]
        exact s2 b o e
      refine ⟨T, _, rfl, SqT.of upd_same, rfl, _, _, rfl, _, _, rfl, rfl, ?_⟩
      refine ⟨_, rfl, _, _, rfl, rfl, .inr ⟨by decide, by decide⟩, _, rfl, .inl ⟨_, rfl, _, rfl, _, _, rfl, rfl, .inl ⟨by decide, by decide⟩, _, _, rfl, rfl, _, _, rfl, rfl, .inr ⟨by omega, by omega⟩, _, _, rfl, rfl, .inl ⟨_, rfl, _, _, rfl, rfl, (by show (0 : Int) < _; decide), ?_⟩⟩⟩
      exact ⟨_, _, _, rfl, s3⟩
    · rintro σ H2 ⟨t, x, y, rfl, s2⟩
      refine ⟨_, rfl, a, rfl, ⟨_, s2.seq hS⟩, fun D hD => ?_⟩
      refine lc_list (K := K) (a := a) (xs := ns.map V.int) (fun i H3 => ∃ cs : List Int, H3 D = some (.lst (cs.map V.int)) ∧ cs.length = i ∧ Same H2 H3) ⟨[], upd_same, rfl, fun b o e => by rw [upd_ne (ne_of_none e hD)]; exact e⟩ (fun i H3 _ ⟨_, _, _, s3⟩ => s3.seq (s2.seq hS)) ?_ ?_
      · rintro i v H3 hi ⟨cs, hc, hl, s3⟩
        obtain ⟨n, hn, rfl⟩ := int_at hi
        have hi63 : i < 63 := by
          have q := (List.getElem?_eq_some_iff.mp hn).1
          omega
        refine ⟨rfl, _, rfl, .inl ⟨_, rfl, _, rfl, cs.map V.int, hc, small1000 (by rw [List.length_map]; omega), cs ++ [if n < 0 then -n else n], ?_, by rw [List.length_append, hl]; rfl, ?_⟩⟩
        · rw [List.map_append]
          exact upd_same
        · intro b o e
          rw [upd_ne (ne_of_none e hD)]
          exact s3 b o e
      · rintro H3 ⟨cs, hc, hl, s3⟩
        refine ⟨_, rfl, (by show 4 ≤ sizeLine; decide), fun p hp => ?_⟩
        refine k p D _ ((s2.trans s3).free hp) (s2.free hD) ⟨cs, 0, 0, t, upd_same, ?_, Int.le_refl 0⟩ fun b o e => ?_
        · rw [upd_ne (ne_of_none hc hp)]
          exact hc
        · have e2 := s3 b o (s2 b o e)
          rw [upd_ne (ne_of_none e2 hp)]
          exact e2
/-! ### _law_draw -/
def spDraw : Sp := fun vs H Q _ => ∃ (p c : Addr) (m : Int), vs = [.ref p, .int m] ∧ HandC H p c ∧ (0 < m ∧ m.natAbs.log2 < 9000) ∧ ∀ (r : Int) H', 0 ≤ r → r < m → HandC H' p c → But p H H' → Q (.int r) H'
abbrev s_draw : Stmt := top 34
abbrev N_draw : List Str := ["_law_hand_here", "_law_many", "_law_cell", "_law_rest"]
theorem sc_draw : FnScope N_draw ["_law_hand_here", "_law_many"] (defScope s_draw) := ⟨rfl, rfl, rfl, by decide +kernel, rfl, by decide +kernel, by decide +kernel⟩
theorem atI_of {α : Type} {xs : List α} {i : Int} (h0 : 0 ≤ i) (h1 : i < xs.length) : ∃ v, xs[i.toNat]? = some v ∧ atI xs i = some v := by
  have e : xs[i.toNat]? = some (xs[i.toNat]'(by omega)) := List.getElem?_eq_getElem _
  have e2 : ((i.toNat : Nat) : Int) = i := by omega
  refine ⟨_, e, ?_⟩
  have q := atI_nat e
  rw [e2] at q
  exact q
theorem But.upd {p : Addr} {H H' : Hp} {o : HO} (h : But p H H') : But p H (upd H' p o) := fun b u hb e => by
  rw [upd_ne hb]
  exact h b u hb e
theorem But.refl (p : Addr) (H : Hp) : But p H H := fun _ _ _ e => e
theorem kp_draw (F : At K mg "_law_draw" s_draw) (GM : Keeps CX0 P w K mg base "_law_mix" 1 ["_law_number", "_law_turn"] spMix) (nI : mg "int" = none) (nL : mg "len" = none) : Keeps CX0 P w K mg base "_law_draw" 2 ["_law_hand_here", "_law_many"] spDraw := by
  refine keeps_of F sc_draw (fun _ _ _ _ _ _ us hl => match us, hl with | [_, _], _ => rfl) (fun vs H Q E h => ?_) (fun f cdv A outer s H vs Q E hr h => ?_)
  · obtain ⟨p, c, m, rfl, _⟩ := h
    rfl
  · obtain ⟨p, c, m, rfl, ⟨cs, i, rest, tot, hp, hc, hi⟩, ⟨hm, hm2⟩, k⟩ := h
    have cp : c ≠ p := ne_of hc hp (by
      intro z
      cases cs with
      | nil => cases z
      | cons y ys => cases z)
    -- what stands behind the first if
    obtain ⟨tl, dtl, tail⟩ : ∃ tl, PSs (cxOf CX0 P w K mg base N_draw "_law_draw" (defScope s_draw) f cdv A outer s H E).nox ((defBody s_draw).drop 1) tl ∧ ∀ (H1 : Hp) (i1 r1 : Int) (x : Option V), 0 ≤ i1 → H1 p = some (.lst [.ref c, .int i1, .int r1, .int tot]) → H1 c = some (.lst (cs.map V.int)) → But p H H1 →
        tl { nx := fun _ H' => Q .non H', rt := Q } [some (V.ref p), some (V.int m), x, none] H1 := by
      refine ⟨_, (pss_cons (ps_if (pt_cmpR op_gt (pe_ix ix_list (pv 0) pe_int (fun _ _ => rfl)) pe_int (nomark _)) (pss_cons (ps_set (i := 3) sc_draw.nd rfl (by walk_at "lv") (pe_ix ix_list (pv 0) pe_int (fun _ _ => rfl)))
        (pss_cons (ps_asg (pe_op op_fdivW (pv 3) (pv 1)) (pg_sub (pv 0) pe_int set_list))
        (pss_one (ps_ret (pe_op op_mod (pe_callTy call_int1 (by rfl) nI boot_int (pa_cons (pv 3) pa_nil)) (pv 1)))))) pss_nil)
        (pss_cons (ps_asg (pe_op op_mod (pe_callTy call_int1 (by rfl) nI boot_int (pa_cons (pe_op op_add (pe_ix ix_list (pv 0) pe_int (fun _ _ => rfl)) pe_int) pa_nil)) pe_int) (pg_sub (pv 0) pe_int set_list))
        (pss_one (ps_ret (pe_op op_mod (pe_callTy call_int1 (by rfl) nI boot_int (pa_cons (pe_k GM hr (by rfl) pass0 (pa_cons (pe_ix ix_list (pv 0) pe_int (fun _ _ => rfl)) (pa_cons (pe_ix ix_list (pv 0) pe_int (fun _ _ => rfl)) pa_nil))) pa_nil)) (pv 1)))))), ?_⟩
      intro H1 i1 r1 x h0 h1 h2 b1
      refine ⟨_, rfl, p, _, _, _, rfl, rfl, SqL.of h1, rfl, _, _, rfl, rfl, _, rfl, ?_⟩
      refine ite2 (fun _ => ?_) (fun _ => ?_)
      · refine ⟨_, rfl, p, _, _, _, rfl, rfl, SqL.of h1, rfl, _, rfl, _, rfl, _, _, rfl, rfl, ⟨hm, hm2⟩, _, rfl, p, _, _, 2, rfl, rfl, h1, rfl, ?_⟩
        refine ⟨_, rfl, .inl ⟨_, rfl, _, rfl, _, _, rfl, rfl, hm, ?_⟩⟩
        exact k _ _ (Int.emod_nonneg _ (by omega)) (Int.emod_lt_of_pos _ hm) ⟨cs, i1, _, _, upd_same, by rw [upd_ne cp]; exact h2, h0⟩ b1.upd
      · refine ⟨_, rfl, p, _, _, _, rfl, rfl, SqL.of h1, rfl, _, _, rfl, rfl, .inl ⟨_, rfl, _, _, rfl, rfl, (by show (0 : Int) < _; decide), _, rfl, p, _, _, 3, rfl, rfl, h1, rfl, ?_⟩⟩
        refine ⟨_, rfl, p, _, _, _, rfl, rfl, SqL.of upd_same, rfl, _, rfl, p, _, _, _, rfl, rfl, SqL.of upd_same, rfl, _, _, rfl, fun r => .inl ⟨_, rfl, _, rfl, _, _, rfl, rfl, hm, ?_⟩⟩
        exact k _ _ (Int.emod_nonneg _ (by omega)) (Int.emod_lt_of_pos _ hm) ⟨cs, i1, _, _, upd_same, by rw [upd_ne cp]; exact h2, h0⟩ b1.upd
    refine ⟨_, pss_cons (ps_if (PW.pt (pw_and (pt_cmpR op_eq (pe_ix ix_list (pv 0) pe_int (fun _ _ => rfl)) pe_int (nomark _)) (pw_and1 (pt_cmpR op_lt (pe_ix ix_list (pv 0) pe_int (fun _ _ => rfl)) (pe_callB call_len_seq (by rfl) nL boot_len (pa_cons (pe_ix ix_list (pv 0) pe_int (fun _ _ => rfl)) pa_nil)) (nomark _))))) (pss_cons (ps_set (i := 2) sc_draw.nd rfl (by walk_at "lv") (pe_ix ix_list (pe_ix ix_list (pv 0) pe_int (fun _ _ => rfl)) (pe_ix ix_list (pv 0) pe_int (fun _ _ => rfl)) (fun _ _ => rfl)))
        (pss_cons (ps_asg (pe_op op_add (pe_ix ix_list (pv 0) pe_int (fun _ _ => rfl)) pe_int) (pg_sub (pv 0) pe_int set_list))
        (pss_cons (ps_if (pt_cmpR op_lt (pv 2) (pe_op op_pow pe_int pe_int) (nomark _)) (pss_one (ps_ret (pe_op op_mod (pe_callTy call_int1 (by rfl) nI boot_int (pa_cons (pe_k GM hr (by rfl) pass0 (pa_cons (pe_op op_mod (pe_callTy call_int1 (by rfl) nI boot_int (pa_cons (pv 2) pa_nil)) pe_int) (pa_cons (pe_ix ix_list (pv 0) pe_int (fun _ _ => rfl)) pa_nil))) pa_nil)) (pv 1)))) pss_nil)
        (pss_one (ps_asg (pv 2) (pg_sub (pv 0) pe_int set_list)))))) pss_nil) dtl, ?_⟩
    refine ⟨_, rfl, p, _, _, _, rfl, rfl, SqL.of hp, rfl, rfl, _, rfl, ?_⟩
    refine ite2 (fun _ => ?_) (fun _ => ?_)
    · refine ⟨_, rfl, p, _, _, _, rfl, rfl, SqL.of hp, rfl, _, rfl, p, _, _, _, rfl, rfl, SqL.of hp, rfl, c, _, rfl, .inl (SqL.of hc), _, _, rfl, rfl, _, rfl, ?_⟩
      refine ite2 (fun hlt => ?_) (fun _ => ?_)
      · have hlt := of_decide_eq_true hlt
        rw [List.length_map] at hlt
        obtain ⟨v, ev, eat⟩ := atI_of (xs := cs.map V.int) hi (by rw [List.length_map]; exact hlt)
        obtain ⟨z, _, rfl⟩ := int_at ev
        refine ⟨_, rfl, p, _, _, _, rfl, rfl, SqL.of hp, rfl, _, rfl, p, _, _, _, rfl, rfl, SqL.of hp, rfl, c, _, _, _, rfl, rfl, SqL.of hc, eat, ?_⟩
        refine ⟨_, rfl, p, _, _, _, rfl, rfl, SqL.of hp, rfl, _, _, rfl, rfl, _, rfl, p, _, _, 1, rfl, rfl, hp, rfl, ?_⟩
        refine ⟨_, rfl, _, _, rfl, rfl, ⟨by decide, by decide, by decide⟩, _, _, rfl, rfl, _, rfl, ?_⟩
        refine ite2 (fun _ => ?_) (fun _ => ?_)
        · refine ⟨_, rfl, .inl ⟨_, rfl, _, _, rfl, rfl, (by show (0 : Int) < _; decide), _, rfl, p, _, _, _, rfl, rfl, SqL.of upd_same, rfl, _, _, rfl, fun r => .inl ⟨_, rfl, _, rfl, _, _, rfl, rfl, hm, ?_⟩⟩⟩
          exact k _ _ (Int.emod_nonneg _ (by omega)) (Int.emod_lt_of_pos _ hm) ⟨cs, _, _, _, upd_same, by rw [upd_ne cp]; exact hc, by omega⟩ (But.refl p H).upd
        · refine ⟨_, rfl, _, rfl, p, _, _, 2, rfl, rfl, upd_same, rfl, ?_⟩
          exact tail _ (i + 1) z _ (by omega) upd_same (by rw [upd_ne cp, upd_ne cp]; exact hc) (But.refl p H).upd.upd
      · exact tail _ i rest _ hi hp hc (But.refl p H)
    · exact tail _ i rest _ hi hp hc (But.refl p H)
end
end My
set_option Elab.async false
set_option linter.all false
set_option maxRecDepth 100000
set_option maxHeartbeats 8000000
namespace My
open PySem PySem.Spec PyProof.Rows L2
local macro_rules | `(tactic| walk_at "lv") => `(tactic| first | exact Or.inl rfl | exact Or.inr rfl)
/-! ### range with bounds of any size -/
section
variable {X : Cx} {tg : Expr}
/-- the long iterator, told by any J that yields lo, lo + c, .. -/
theorem turn_long {P : Program} {w : World} {K : PySem.W.Frag} {J : It} (it : Addr) (lo c : Int) (n : Nat) (hgo : ∀ i H, J.go i H → i < n) (hst : ∀ i H, J.stop i H → n ≤ i) (hy : ∀ (i : Nat) H, J.yld i H (.int (lo + (i : Nat) * c)) H) :
    Turn P w K tg J [it] it (fun i h => IsLongIter h it (lo + (i : Nat) * c) ((n : Int) - (i : Nat)) c) where
  mem := List.mem_singleton.mpr rfl
  obj := fun i h st b hb => by
    cases List.mem_singleton.mp hb
    refine ⟨_, st, fun v z => ?_⟩
    cases (show Data.fields _ = Data.cell v from z)
  keep := fun i h h' st k => k it (List.mem_singleton.mpr rfl) _ st
  item := by
    intro Y e1 e2 e3 hc i pns s σ H E I hf st hg
    have hi := hgo i H hg
    subst e1 e2 e3
    obtain ⟨f0, f1, f2, f3, f4, f5⟩ := hf it (List.mem_singleton.mpr rfl)
    refine (Walks.longrange (prog := Y.prog) (w := Y.w) (I.ok.hd hc) it lo c n).item i s _ _ hi st fun v h' tk hv st' kk => ?_
    obtain ⟨t, rfl⟩ := hv
    have I1 : Inv Y pns σ H { s with heap := h', toks := tk } := I.turned (fun b o hb e => kk b o (fun z => hb (List.mem_singleton.mp z)) e) f0 f1 f3 f4 f5
    exact ⟨_, rfl, go_of (s := { s with heap := h', toks := tk }) (n := "longrange_iterator") st' rfl rfl (by decide) ⟨.int (lo + (i : Nat) * c), H, I1, ⟨t, rfl⟩, hy i H, st', fun b hb => (hf b hb).1⟩⟩
  done := by
    intro Y e1 e2 e3 hc i pns s σ H E I hf st hg
    have hi := hst i H hg
    subst e1 e2 e3
    obtain ⟨f0, f1, f2, f3, f4, f5⟩ := hf it (List.mem_singleton.mpr rfl)
    exact wpAny_pyNext_long_end (I.ok.hd hc) st (by omega) fun h' eb => ⟨rfl, I.turned (t' := s.toks) (fun b o hb e => eb b o hb e) f0 f1 f3 f4 f5⟩
  self := fun A i s Q E st h => wpAny_pyIter_longiter st h
/-- range(i, j), i and j of any size -/
def iRngL (ta : TA) : TI := fun σ H R => ta σ H fun vs H1 => ∃ i j : Int, vs = [.int i, .int j] ∧ R (Itr i (j - i).toNat) H1
theorem pi_rangeL {a b : Expr} {ta : TA} {p pos : Pos} (hg : Gl X "range") (hm : X.mg "range" = none) (ha : PA X [a, b] ta) (hs : starEach [a, b] X.env = [(false, eval a X.env), (false, eval b X.env)] := by rfl) (hs2 : starEach [b] X.env = [(false, eval b X.env)] := by rfl) :
    PI X tg (.Call (.Name "range" p) [a, b] [] pos) (iRngL ta) := by
  refine ⟨fun pns s σ H R I h => Call_ (ld_blt I hg hm boot_range (PyProof.Rows.callWith_type1 (thn (ha.run pos pns s σ H _ I h) fun us s1 ⟨vs, H1, I1, r1, q1⟩ => ?_) (by rw [hs, hs2]) (by rw [hs2]; rfl)))⟩
  obtain ⟨i, j, rfl, q⟩ := q1
  obtain ⟨u, v, rfl, ru, rv⟩ : ∃ u v, us = [u, v] ∧ RelV (.int i) u ∧ RelV (.int j) v := by
    cases r1 with | cons r rr => cases rr with | cons r' rr => cases rr; exact ⟨_, _, rfl, r, r'⟩
  obtain ⟨t, rfl⟩ := ru
  obtain ⟨t', rfl⟩ := rv
  refine call_range_2 ?_
  by_cases sm : Builtin.Range.small i j 1 = true
  · have I2 : Inv X pns σ H1 { s1 with heap := s1.heap.push { cls := .type "range", data := .fields #[.int i t, .int j t', .int 1 s1.toks] }, toks := s1.toks + 1 } := I1.kept fun b o e => Heap.get?_push_of_some _ e
    refine wpAny_pyIter_range (IsRange.new ..) sm (pi_one (tk := s1.toks + 1) I2 _ (turn_range _ i (j - i).toNat) ?_ q)
    have e1 : i + ((0 : Nat) : Int) * 1 = i := by omega
    have e2 : (((j - i).toNat : Nat) : Int) - ((0 : Nat) : Int) = Builtin.Range.rangeSize i j 1 := by rw [rangeSize_one]; split <;> omega
    show IsRangeIter _ _ (i + ((0 : Nat) : Int) * 1) _ 1; rw [e1, e2]; exact Heap.get?_push_size _ rfl
  · have sm := Bool.eq_false_iff.mpr sm
    have I2 : Inv X pns σ H1 { s1 with heap := s1.heap.push { cls := .type "range", data := .fields #[.int i t, .int j t', .int 1 s1.toks] }, toks := s1.toks + 1 } := I1.kept fun b o e => Heap.get?_push_of_some _ e
    refine wpAny_pyIter_longrange (IsRange.new ..) sm (pi_one (tk := s1.toks + 1) I2 _ (turn_long (J := Itr i (j - i).toNat) _ i 1 (j - i).toNat (fun _ _ z => z) (fun _ _ z => z) (fun k H => ⟨rfl, congrArg V.int (by omega)⟩)) ?_ q)
    have e1 : i + ((0 : Nat) : Int) * 1 = i := by omega
    have e2 : (((j - i).toNat : Nat) : Int) - ((0 : Nat) : Int) = Builtin.Range.rangeSize i j 1 := by rw [rangeSize_one]; split <;> omega
    show IsLongIter _ _ (i + ((0 : Nat) : Int) * 1) _ 1; rw [e1, e2]; exact Heap.get?_push_size _ rfl
/-- range(i, j, -1), i and j of any size -/
def iRngD (ta : TA) : TI := fun σ H R => ta σ H fun vs H1 => ∃ i j : Int, vs = [.int i, .int j, .int (-1)] ∧ R (Itc i (-1) (i - j).toNat) H1
theorem pi_rangeD {a b c : Expr} {ta : TA} {p pos : Pos} (hg : Gl X "range") (hm : X.mg "range" = none) (ha : PA X [a, b, c] ta)
    (hs : starEach [a, b, c] X.env = (false, eval a X.env) :: starEach [b, c] X.env := by rfl) (hpl : (backTo pos (starEach [b, c] X.env)).any (·.1) = false := by rfl) : PI X tg (.Call (.Name "range" p) [a, b, c] [] pos) (iRngD ta) := by
  refine ⟨fun pns s σ H R I h => Call_ (ld_blt I hg hm boot_range (PyProof.Rows.callWith_type1 (thn (ha.run pos pns s σ H _ I h) fun us s1 ⟨vs, H1, I1, r1, q1⟩ => ?_) hs hpl))⟩
  obtain ⟨i, j, rfl, q⟩ := q1
  obtain ⟨u, v, x, rfl, ru, rv, rx⟩ : ∃ u v x, us = [u, v, x] ∧ RelV (.int i) u ∧ RelV (.int j) v ∧ RelV (.int (-1)) x := by
    cases r1 with | cons r rr => cases rr with | cons r' rr => cases rr with | cons r2 rr => cases rr; exact ⟨_, _, _, rfl, r, r', r2⟩
  obtain ⟨t, rfl⟩ := ru
  obtain ⟨t', rfl⟩ := rv
  obtain ⟨t2, rfl⟩ := rx
  refine call_range_3 (by decide) ?_ (.inl (PyProof.noPylong_small (by decide)))
  have e1 : i + ((0 : Nat) : Int) * (-1) = i := by omega
  have e2 : (((i - j).toNat : Nat) : Int) - ((0 : Nat) : Int) = Builtin.Range.rangeSize i j (-1) := by rw [PySem.W.rangeSize_downNat i j]; omega
  have I2 : Inv X pns σ H1 { s1 with heap := s1.heap.push { cls := .type "range", data := .fields #[.int i t, .int j t', .int (-1) t2] } } := I1.kept (t' := s1.toks) fun b o e => Heap.get?_push_of_some _ e
  by_cases sm : Builtin.Range.small i j (-1) = true
  · refine wpAny_pyIter_range (IsRange.new ..) sm (pi_one (tk := s1.toks) I2 _ (turn_rangeC _ i (-1) (i - j).toNat) ?_ q)
    show IsRangeIter _ _ (i + ((0 : Nat) : Int) * (-1)) _ (-1); rw [e1, e2]; exact Heap.get?_push_size _ rfl
  · refine wpAny_pyIter_longrange (IsRange.new ..) (Bool.eq_false_iff.mpr sm) (pi_one (tk := s1.toks) I2 _ (turn_long (J := Itc i (-1) (i - j).toNat) _ i (-1) (i - j).toNat (fun _ _ z => z) (fun _ _ z => z) (fun k H => ⟨rfl, rfl⟩)) ?_ q)
    show IsLongIter _ _ (i + ((0 : Nat) : Int) * (-1)) _ (-1); rw [e1, e2]; exact Heap.get?_push_size _ rfl
end
end My
set_option Elab.async false
set_option linter.all false
set_option maxRecDepth 100000
set_option maxHeartbeats 8000000
namespace My
open PySem PySem.Spec PyProof.Rows L2
local macro_rules | `(tactic| walk_at "lv") => `(tactic| first | exact Or.inl rfl | exact Or.inr rfl)
/-- the names of built-ins that the text does not take for itself -/
structure Nb (mg : Str → Option Value) : Prop where
  int : mg "int" = none
  bool : mg "bool" = none
  str : mg "str" = none
  list : mg "list" = none
  tuple : mg "tuple" = none
  isinstance : mg "isinstance" = none
  enumerate : mg "enumerate" = none
  abs : mg "abs" = none
  len : mg "len" = none
  range : mg "range" = none
  min : mg "min" = none
  all : mg "all" = none
  any : mg "any" = none
  verr : mg "ValueError" = none
section
variable {P : Program} {w : World} {K : PySem.W.Frag} {mg : Str → Option Value} {base : Heap}
/-! ### is_whole -/
def spWhole : Sp := fun vs H Q _ => ∃ a : Int, vs = [.int a] ∧ Q (.bl true) H
abbrev s_whole : Stmt := top 3
abbrev N_whole : List Str := ["thing"]
theorem sc_whole : FnScope N_whole ["thing"] (defScope s_whole) := ⟨rfl, rfl, rfl, by decide +kernel, rfl, by decide +kernel, by decide +kernel⟩
theorem kp_whole (F : At K mg "is_whole" s_whole) (N : Nb mg) : Keeps CX0 P w K mg base "is_whole" 1 ["thing"] spWhole := by
  refine keeps_of F sc_whole (fun _ _ _ _ _ _ us hl => match us, hl with | [_], _ => rfl) (fun vs H Q E h => ?_) (fun f cdv A outer s H vs Q E hr h => ?_)
  · obtain ⟨a, rfl, _⟩ := h
    rfl
  · obtain ⟨a, rfl, k⟩ := h
    refine ⟨_, (pss_one (ps_ret (pe_and (pe_callB call_isi (by rfl) N.isinstance boot_isinstance (pa_cons (pv 0) (pa_cons (pe_bltn (v := .ty "int") (by rfl) N.int (by decide +kernel) rfl) pa_nil))) (pe_one (pe_not (pe_callB call_isi (by rfl) N.isinstance boot_isinstance (pa_cons (pv 0) (pa_cons (pe_bltn (v := .ty "bool") (by rfl) N.bool (by decide +kernel) rfl) pa_nil)))))))), ?_⟩
    refine ⟨_, rfl, .int a, .ty "int", _, _, true, rfl, .ty "int", .base (.int a), kit_ty (by decide +kernel), _, rfl, ?_⟩
    exact ⟨_, rfl, .int a, .ty "bool", _, _, false, rfl, .ty "bool", .base (.int a), kit_ty (by decide +kernel), _, rfl, k⟩
/-! ### is_whole_from -/
def spWholeF : Sp := fun vs H Q _ => ∃ a lo hi : Int, vs = [.int a, .int lo, .int hi] ∧ Q (.bl (decide (lo ≤ a) && decide (a ≤ hi))) H
abbrev s_wholeF : Stmt := top 4
abbrev N_wholeF : List Str := ["thing", "low", "high"]
theorem sc_wholeF : FnScope N_wholeF ["thing", "low", "high"] (defScope s_wholeF) := ⟨rfl, rfl, rfl, by decide +kernel, rfl, by decide +kernel, by decide +kernel⟩
theorem kp_wholeF (F : At K mg "is_whole_from" s_wholeF) (G : Keeps CX0 P w K mg base "is_whole" 1 ["thing"] spWhole) : Keeps CX0 P w K mg base "is_whole_from" 2 ["thing", "low", "high"] spWholeF := by
  refine keeps_of F sc_wholeF (fun _ _ _ _ _ _ us hl => match us, hl with | [_, _, _], _ => rfl) (fun vs H Q E h => ?_) (fun f cdv A outer s H vs Q E hr h => ?_)
  · obtain ⟨a, lo, hi, rfl, _⟩ := h
    rfl
  · obtain ⟨a, lo, hi, rfl, k⟩ := h
    refine ⟨_, (pss_one (ps_ret (pe_and (pe_k G hr (by rfl) pass0 (pa_cons (pv 0) pa_nil)) (pe_one (pe_chain op_le op_le (pv 1) (pv 0) (pv 2)))))), ?_⟩
    refine ⟨_, rfl, a, rfl, _, rfl, ?_⟩
    refine ⟨_, rfl, _, rfl, _, _, rfl, rfl, _, rfl, ?_⟩
    by_cases h1 : lo ≤ a
    · rw [decide_eq_true h1] at k ⊢
      exact ⟨_, rfl, _, _, rfl, rfl, k⟩
    · rw [decide_eq_false h1] at k ⊢
      exact k
end
end My
set_option Elab.async false
set_option linter.all false
set_option maxRecDepth 100000
set_option maxHeartbeats 8000000
namespace My
open PySem PySem.Spec PyProof.Rows L2
local macro_rules | `(tactic| walk_at "lv") => `(tactic| first | exact Or.inl rfl | exact Or.inr rfl)
/-- a list or a tuple -/
def SqA (H : Hp) (a : Addr) (xs : List V) : Prop := H a = some (.lst xs) ∨ H a = some (.tup xs)
theorem SqA.same {H H' : Hp} {a : Addr} {xs : List V} (s : Same H H') (h : SqA H a xs) : SqA H' a xs := h.elim (fun h => .inl (s _ _ h)) fun h => .inr (s _ _ h)
theorem SqA.keep {H H' : Hp} {a : Addr} {xs : List V} (s : Same H H') (h : SqA H a xs) : H' a = H a := h.elim (fun h => by rw [s _ _ h, h]) fun h => by rw [s _ _ h, h]
theorem same_new {H H1 : Hp} {p : Addr} {o : HO} (s : Same H H1) (hp : H1 p = none) : Same H (upd H1 p o) := fun b u e => by
  rw [upd_ne (ne_of_none (s _ _ e) hp)]
  exact s _ _ e
/-- a walk of a name's list or tuple -/
def iSeqV (i : Nat) : TI := fun σ H R => ∃ a xs, σ[i]? = some (some (.ref a)) ∧ SqA H a xs ∧ ∀ J, Walk J xs.length (fun H' => H' a = H a) (YAt xs) → R J H
theorem pi_seqV {X : Cx} {tg l : Expr} {i : Nat} (h : PE X l (tVar i)) : PI X tg l (iSeqV i) := ⟨fun pins s σ H R I q => by
  obtain ⟨a, xs, e, hs, k⟩ := q
  rcases hs with hs | hs
  · exact (pi_list h).run pins s σ H R I ⟨.ref a, e, a, rfl, ⟨xs, SqL.of hs⟩, k _ (walk_list.mono (fun H' e => SqL.of (e.trans hs)) fun _ _ _ _ _ _ y => y)⟩
  · exact (pi_tup h).run pins s σ H R I ⟨.ref a, e, a, rfl, ⟨xs, SqT.of hs⟩, k _ (walk_tup.mono (fun H' e => SqT.of (e.trans hs)) fun _ _ _ _ _ _ y => y)⟩⟩
section
variable {P : Program} {w : World} {K : PySem.W.Frag} {mg : Str → Option Value} {base : Heap}
/-! ### is_sequence -/
def spSeq : Sp := fun vs H Q _ => ∃ a xs, vs = [.ref a] ∧ SqA H a xs ∧ ∀ H', Same H H' → Q (.bl true) H'
abbrev s_seq : Stmt := top 5
abbrev N_seq : List Str := ["thing"]
theorem sc_seq : FnScope N_seq ["thing"] (defScope s_seq) := ⟨rfl, rfl, rfl, by decide +kernel, rfl, by decide +kernel, by decide +kernel⟩
theorem kp_seq (F : At K mg "is_sequence" s_seq) (N : Nb mg) : Keeps CX0 P w K mg base "is_sequence" 1 ["thing"] spSeq := by
  refine keeps_of F sc_seq (fun _ _ _ _ _ _ us hl => match us, hl with | [_], _ => rfl) (fun vs H Q E h => ?_) (fun f cdv A outer s H vs Q E hr h => ?_)
  · obtain ⟨a, xs, rfl, _⟩ := h
    rfl
  · obtain ⟨a, xs, rfl, hs, k⟩ := h
    refine ⟨_, (pss_one (ps_ret (pe_callB call_isiT (by rfl) N.isinstance boot_isinstance (pa_cons (pv 0) (pa_cons (pe_tup (pa_cons (pe_bltn (v := .ty "list") (by rfl) N.list (by decide +kernel) rfl) (pa_cons (pe_bltn (v := .ty "tuple") (by rfl) N.tuple (by decide +kernel) rfl) pa_nil))) pa_nil))))), ?_⟩
    refine ⟨_, rfl, ⟨(by show 2 ≤ sizeLine; decide), fun t ht => ?_⟩⟩
    have s1 := same_new (o := .tup [V.ty "list", V.ty "tuple"]) (Same.refl H) ht
    rcases hs with hs | hs
    · exact ⟨.ref a, t, [.ty "list", .ty "tuple"], _, _, true, rfl, upd_same, .cons (.ty _) (.cons (.ty _) .nil), .base (.lst (s1 _ _ hs)), kitAny_cons (b := true) (kit_ty (by decide +kernel)) (fun z => nomatch z) (fun _ => rfl), k _ s1⟩
    · exact ⟨.ref a, t, [.ty "list", .ty "tuple"], _, _, true, rfl, upd_same, .cons (.ty _) (.cons (.ty _) .nil), .base (.tup (s1 _ _ hs)), kitAny_cons (b := false) (kit_ty (by decide +kernel)) (fun _ => kitAny_cons (b := true) (kit_ty (by decide +kernel)) (fun z => nomatch z) (fun _ => rfl)) (fun z => nomatch z), k _ s1⟩
/-! ### _check_core -/
def spCore : Sp := fun vs H Q _ => ∃ lo hi : Int, vs = [.int lo, .int hi] ∧ -20000 ≤ lo ∧ hi ≤ 20000 ∧ lo ≤ hi + 1 ∧ Q .non H
abbrev s_core : Stmt := top 15
abbrev N_core : List Str := ["low", "high"]
theorem sc_core : FnScope N_core ["low", "high"] (defScope s_core) := ⟨rfl, rfl, rfl, by decide +kernel, rfl, by decide +kernel, by decide +kernel⟩
theorem kp_core (F : At K mg "_check_core" s_core) (G : Keeps CX0 P w K mg base "is_whole" 1 ["thing"] spWhole) (mF : ∃ t, mg "FARTHEST" = some (.int 20000 t)) : Keeps CX0 P w K mg base "_check_core" 2 ["low", "high"] spCore := by
  refine keeps_of F sc_core (fun _ _ _ _ _ _ us hl => match us, hl with | [_, _], _ => rfl) (fun vs H Q E h => ?_) (fun f cdv A outer s H vs Q E hr h => ?_)
  · obtain ⟨lo, hi, rfl, _⟩ := h
    rfl
  · obtain ⟨lo, hi, rfl, h1, h2, h3, k⟩ := h
    obtain ⟨t, mF⟩ := mF
    refine ⟨_, (pss_cons (ps_if (PW.pt (pw_or (pt_not (pt_val (pe_k G hr (by rfl) pass0 (pa_cons (pv 0) pa_nil)))) (pw_or1 (pt_not (pt_val (pe_k G hr (by rfl) pass0 (pa_cons (pv 1) pa_nil))))))) (pss_one ps_never) pss_nil)
        (pss_one (ps_if (PW.pt (pw_or (pt_cmpR op_lt (pv 0) (pe_un un_neg (pe_glob (v := .int 20000) (by rfl) mF ⟨_, rfl⟩)) (nomark _)) (pw_or (pt_cmpR op_gt (pv 1) (pe_glob (v := .int 20000) (by rfl) mF ⟨_, rfl⟩) (nomark _)) (pw_or1 (pt_cmpR op_gt (pv 0) (pe_op op_add (pv 1) pe_int) (nomark _)))))) (pss_one ps_never) pss_nil))), ?_⟩
    refine ⟨_, rfl, lo, rfl, _, rfl, iteF ⟨_, rfl, hi, rfl, _, rfl, iteF ?_⟩⟩
    refine ⟨_, rfl, _, rfl, _, _, rfl, rfl, _, rfl, ?_⟩
    rw [decide_eq_false (by omega : ¬ lo < -20000)]
    refine iteF ⟨_, rfl, _, _, rfl, rfl, _, rfl, ?_⟩
    rw [decide_eq_false (by omega : ¬ hi > 20000)]
    refine iteF ⟨_, rfl, _, rfl, _, _, rfl, rfl, _, _, rfl, rfl, _, rfl, ?_⟩
    rw [decide_eq_false (by omega : ¬ lo > hi + 1)]
    exact iteF k
/-! ### _are_unlike_from -/
def spUnl : Sp := fun vs H Q _ => ∃ (a : Addr) (ns : List Int) (lo hi : Int), vs = [.ref a, .int lo, .int hi] ∧ SqA H a (ns.map V.int) ∧ ns.Nodup ∧ ns.length ≤ 1000 ∧ (∀ n ∈ ns, lo ≤ n ∧ n ≤ hi) ∧ ∀ H', Same H H' → Q (.bl true) H'
abbrev s_unl : Stmt := top 16
abbrev N_unl : List Str := ["numbers", "low", "high", "seen", "number"]
theorem sc_unl : FnScope N_unl ["numbers", "low", "high"] (defScope s_unl) := ⟨rfl, rfl, rfl, by decide +kernel, rfl, by decide +kernel, by decide +kernel⟩
theorem kp_unl (F : At K mg "_are_unlike_from" s_unl) (G : Keeps CX0 P w K mg base "is_whole_from" 2 ["thing", "low", "high"] spWholeF) (G2 : Keeps CX0 P w K mg base "is_sequence" 1 ["thing"] spSeq) :
    Keeps CX0 P w K mg base "_are_unlike_from" 3 ["numbers", "low", "high"] spUnl := by
  refine keeps_of F sc_unl (fun _ _ _ _ _ _ us hl => match us, hl with | [_, _, _], _ => rfl) (fun vs H Q E h => ?_) (fun f cdv A outer s H vs Q E hr h => ?_)
  · obtain ⟨a, ns, lo, hi, rfl, _⟩ := h
    rfl
  · obtain ⟨a, ns, lo, hi, rfl, hs, nd, hl, hb, k⟩ := h
    have hu := hu_of hr
    refine ⟨_, (pss_cons (ps_if (pt_not (pt_val (pe_k G2 (hr.mono (by decide)) (by rfl) pass0 (pa_cons (pv 0) pa_nil)))) (pss_one (ps_ret pe_bl)) pss_nil)
        (pss_cons (ps_set (i := 3) sc_unl.nd rfl (by walk_at "lv") pe_dnewK)
        (pss_cons (ps_for PassesOwn.never rfl (pi_seqV (pv 0)) (pg_name (i := 4) sc_unl.nd rfl (by walk_at "lv")) (pss_cons (ps_if (PW.pt (pw_or (pt_not (pt_val (pe_k G hr (by rfl) pass0 (pa_cons (pv 4) (pa_cons (pv 1) (pa_cons (pv 2) pa_nil)))))) (pw_or1 (pt_cmp (pc_din hu (pv 4) (pv 3)))))) (pss_one (ps_ret pe_bl)) pss_nil)
        (pss_one (ps_dput hu (pv 3) (pv 4) pe_bl rfl))))
        (pss_one (ps_ret pe_bl))))), ?_⟩
    refine ⟨_, rfl, a, _, rfl, hs, fun H1 s1 => ⟨_, rfl, iteF ?_⟩⟩
    intro d hd
    have s2 := same_new (o := .dK []) s1 hd
    refine ⟨a, _, rfl, hs.same s2, fun J wk => for_it wk (fun i σ H2 => ∃ x kvs, σ = [some (.ref a), some (.int lo), some (.int hi), some (.ref d), x] ∧ H2 d = some (.dK kvs) ∧ kvs.length ≤ i ∧ (∀ n : Int, (valV kvs (Sum.inl n)).isSome = true → n ∈ ns.take i) ∧ Same H H2 ∧ (∀ b o, b ≠ d → upd H1 d (.dK []) b = some o → H2 b = some o))
      ⟨_, [], rfl, upd_same, Nat.le_refl 0, (fun n h => by simp [valV_nil] at h), s2, fun b o _ e => e⟩ (fun i σ H2 _ ⟨_, _, _, _, _, _, s3, _⟩ => by rw [hs.keep s3, hs.keep s2]) ?_ ?_⟩
    · rintro i v σ H2 H3 hi' ⟨x, kvs, rfl, e1, e2, e3, s3, b3⟩ ⟨rfl, e4⟩
      obtain ⟨n, hn, rfl⟩ := int_at e4
      have hmem := List.mem_of_getElem? hn
      have hbn := hb n hmem
      refine ⟨_, rfl, _, rfl, _, rfl, n, lo, hi, rfl, ?_⟩
      rw [decide_eq_true hbn.1, decide_eq_true hbn.2]
      refine ⟨_, rfl, iteF ⟨_, rfl, _, rfl, d, _, rfl, DGet.k (k := Sum.inl n) e1, _, rfl, ?_⟩⟩
      have hnone : valV kvs (Sum.inl n) = none := by
        cases e : valV kvs (Sum.inl n) with
        | none => rfl
        | some y =>
          have q := e3 n (by rw [e]; rfl)
          obtain ⟨j, hj, hj2⟩ := List.mem_take_iff_getElem.mp q
          obtain ⟨hi3, hi4⟩ := List.getElem?_eq_some_iff.mp hn
          exact absurd (hj2.trans hi4.symm) (List.pairwise_iff_getElem.mp nd j i (by omega) hi3 (by omega))
      rw [hnone]
      have hi1000 : i < 1000 := by rw [List.length_map] at hi'; omega
      refine iteF ⟨_, rfl, _, rfl, d, _, rfl, DPut.k (k := Sum.inl n) e1 (small1000 (by omega)), ?_⟩
      have hdn : H1 d = none := hd
      refine ⟨_, _, rfl, upd_same, Nat.le_trans (length_putK _ _ _) (by omega), fun m hm => ?_, fun b o e => ?_, fun b o hb' e => ?_⟩
      · rw [valV_put] at hm
        obtain ⟨hi3, hi4⟩ := List.getElem?_eq_some_iff.mp hn
        rw [List.take_succ_eq_append_getElem hi3]
        by_cases q : (Sum.inl m : Key) = Sum.inl n
        · cases q
          exact List.mem_append_right _ (by rw [hi4]; exact List.mem_singleton.mpr rfl)
        · rw [if_neg q] at hm
          exact List.mem_append_left _ (e3 m hm)
      · have hbd : b ≠ d := ne_of_none (s1 _ _ e) hdn
        rw [upd_ne hbd]
        exact s3 b o e
      · rw [upd_ne hb']
        exact b3 b o hb' e
    · rintro σ H2 ⟨x, kvs, rfl, e1, e2, e3, s3, b3⟩
      exact k _ s3
end
end My
set_option Elab.async false
set_option linter.all false
set_option maxRecDepth 100000
set_option maxHeartbeats 8000000
namespace My
open PySem PySem.Spec PyProof.Rows L2
/-! ### facts of the error classes -/
/-- the class at C: its name, its row of bases -/
def clsB (K : PySem.W.Frag) (C : Addr) (nm : Str) (bm : List Value) : Bool := match K.lookup C with
  | some ⟨.type t, _, .cls cd, sl⟩ => decide (t = "type") && (match cd.mro, sl.toList with
    | .ref C' :: r, [_, _, _, _, some (.builtin n), _] => decide (C' = C) && (decide (n = "ValueError.__new__") && (!cd.hasDel && (cd.hasDict && (decide (cd.name = nm) && decide (r = bm)))))
    | _, _ => false)
  | _ => false
theorem and_ok {a b : Bool} (h : (a && b) = true) : a = true ∧ b = true := Bool.and_eq_true_iff.mp h
theorem clsB_ok {K : PySem.W.Frag} {C : Addr} {nm : Str} {bm : List Value} (h : clsB K C nm bm = true) :
    ∃ q N bs sn sub ab col dd k0 k1 k2 k3 k5, K.lookup C = some (excClassObj nm q C N bs bm true sn sub ab col dd k0 k1 k2 k3 k5 "ValueError.__new__") := by
  unfold clsB at h
  split at h
  · rename_i t dd cd sl lk
    obtain ⟨nm', bs, mro, ns, qn, hd, sn, sb, ab, col, del⟩ := cd
    obtain ⟨l⟩ := sl
    obtain ⟨ht, h⟩ := and_ok h
    have ht := of_decide_eq_true ht
    dsimp only at h
    split at h
    · rename_i C' r k0 k1 k2 k3 n k5
      obtain ⟨h1, h⟩ := and_ok h
      obtain ⟨h2, h⟩ := and_ok h
      obtain ⟨h3, h⟩ := and_ok h
      obtain ⟨h4, h⟩ := and_ok h
      obtain ⟨h5, h6⟩ := and_ok h
      have h1 := of_decide_eq_true h1
      have h2 := of_decide_eq_true h2
      have h3 : del = false := by simpa using h3
      have h4 : hd = true := h4
      have h5 := of_decide_eq_true h5
      have h6 := of_decide_eq_true h6
      rw [lk, ht, h1, h2, h3, h4, h5, h6]
      exact ⟨_, _, _, _, _, _, _, _, _, _, _, _, _, rfl⟩
    · cases h
  · cases h
/-- what is told of an error class x with the attributes fs; b: the class above it -/
structure ExF (K : PySem.W.Frag) (mg : Str → Option Value) (x b : Str) (fs : List Str) : Prop where
  g : mg x = some (.ref (He.ga K x))
  lk : ∃ q N bs sn sub ab col dd k0 k1 k2 k3 k5, K.lookup (He.ga K x) = some (excClassObj x q (He.ga K x) N bs (.ref (He.ga K b) :: He.veBase) true sn sub ab col dd k0 k1 k2 k3 k5 "ValueError.__new__")
  sa : PySem.W.findIn K (.ref (He.ga K x)) "__setattr__" = some (some (.builtin "object.__setattr__"))
  exC : PySem.W.subIn K (.ref (He.ga K x)) (.type "BaseException") = some true
  kC : PySem.W.keepIn K (.ref (He.ga K x)) = true
  ga : PySem.W.findIn K (.ref (He.ga K x)) "__getattribute__" = some (some (.builtin "BaseException.__getattribute__"))
  gg : PySem.W.findIn K (.ref (He.ga K x)) "__getattr__" = some none
  ca : PySem.W.findIn K (.ref (He.ga K x)) "__class__" = some (some (.builtin "object.__class__"))
  mo : PySem.W.mroIn K (He.ga K x) (.type "object") = some true
  no : ∀ f ∈ fs, PySem.W.findIn K (.ref (He.ga K x)) f = some none
  kB : PySem.W.kitOne K (.ref (He.ga K x)) (.ref (He.ga K b)) = some true
  kV : PySem.W.kitOne K (.ref (He.ga K x)) (.type "ValueError") = some true
  xm : PySem.W.exmOne K (.ref (He.ga K x)) (.ref (He.ga K b)) = some true
  new : fs = [] → PySem.W.excIn K (He.ga K x) He.veBase "ValueError.__new__" = true
  ini : fs ≠ [] → PySem.W.findIn K (.ref (He.ga K x)) "__init__" = some (some (.ref (He.ma K (He.ga K x) "__init__"))) ∧ PySem.W.typeIn K (.ref (He.ma K (He.ga K x) "__init__")) = some (.type "function")
def exB (K : PySem.W.Frag) (b : Str) (p : Str × List Str) : Bool :=
  (He.Fa.glo p.1).ok K && (clsB K (He.ga K p.1) p.1 (.ref (He.ga K b) :: He.veBase) && (decide (PySem.W.findIn K (.ref (He.ga K p.1)) "__setattr__" = some (some (.builtin "object.__setattr__"))) &&
  (decide (PySem.W.subIn K (.ref (He.ga K p.1)) (.type "BaseException") = some true) && (PySem.W.keepIn K (.ref (He.ga K p.1)) && (decide (PySem.W.findIn K (.ref (He.ga K p.1)) "__getattribute__" = some (some (.builtin "BaseException.__getattribute__"))) &&
  (decide (PySem.W.findIn K (.ref (He.ga K p.1)) "__getattr__" = some none) && (decide (PySem.W.findIn K (.ref (He.ga K p.1)) "__class__" = some (some (.builtin "object.__class__"))) && (decide (PySem.W.mroIn K (He.ga K p.1) (.type "object") = some true) &&
  ((p.2.all fun f => decide (PySem.W.findIn K (.ref (He.ga K p.1)) f = some none)) && (decide (PySem.W.kitOne K (.ref (He.ga K p.1)) (.ref (He.ga K b)) = some true) && (decide (PySem.W.kitOne K (.ref (He.ga K p.1)) (.type "ValueError") = some true) && (decide (PySem.W.exmOne K (.ref (He.ga K p.1)) (.ref (He.ga K b)) = some true) &&
  (match p.2 with
    | [] => PySem.W.excIn K (He.ga K p.1) He.veBase "ValueError.__new__"
    | _ => decide (PySem.W.findIn K (.ref (He.ga K p.1)) "__init__" = some (some (.ref (He.ma K (He.ga K p.1) "__init__")))) && decide (PySem.W.typeIn K (.ref (He.ma K (He.ga K p.1) "__init__")) = some (.type "function")))))))))))))))
theorem exB_ok {K : PySem.W.Frag} {h : Heap} {mg : Str → Option Value} (X : K.In h) (G : h.Ns mainGlobals mg) {x b : Str} {fs : List Str} (c : exB K b (x, fs) = true) : ExF K mg x b fs := by
  obtain ⟨c1, c⟩ := and_ok c
  obtain ⟨c2, c⟩ := and_ok c
  obtain ⟨c3, c⟩ := and_ok c
  obtain ⟨c4, c⟩ := and_ok c
  obtain ⟨c5, c⟩ := and_ok c
  obtain ⟨c6, c⟩ := and_ok c
  obtain ⟨c7, c⟩ := and_ok c
  obtain ⟨c8, c⟩ := and_ok c
  obtain ⟨c9, c⟩ := and_ok c
  obtain ⟨c10, c⟩ := and_ok c
  obtain ⟨c11, c⟩ := and_ok c
  obtain ⟨c12, c⟩ := and_ok c
  obtain ⟨c13, c⟩ := and_ok c
  refine ⟨He.glo_ok X G c1, clsB_ok c2, of_decide_eq_true c3, of_decide_eq_true c4, c5, of_decide_eq_true c6, of_decide_eq_true c7, of_decide_eq_true c8, of_decide_eq_true c9, fun f hf => of_decide_eq_true (List.all_eq_true.mp c10 f hf), of_decide_eq_true c11, of_decide_eq_true c12, of_decide_eq_true c13, fun e => ?_, fun e => ?_⟩
  · subst e
    exact c
  · cases fs with
    | nil => exact absurd rfl e
    | cons f r =>
      obtain ⟨d1, d2⟩ := and_ok c
      exact ⟨of_decide_eq_true d1, of_decide_eq_true d2⟩
section
variable {K : PySem.W.Frag} {mg : Str → Option Value} {x b : Str} {fs : List Str}
theorem ExF.ty (T : ExF K mg x b fs) : PySem.W.typeIn K (.ref (He.ga K x)) = some (.type "type") := by
  obtain ⟨q, N, bs, sn, sub, ab, col, dd, k0, k1, k2, k3, k5, lk⟩ := T.lk
  show ((K.lookup (He.ga K x)).map (·.cls)) = _
  rw [lk]
  rfl
theorem ExF.cl (T : ExF K mg x b fs) : (PySem.W.clsIn K (He.ga K x)).isSome = true := by
  obtain ⟨q, N, bs, sn, sub, ab, col, dd, k0, k1, k2, k3, k5, lk⟩ := T.lk
  unfold PySem.W.clsIn
  rw [lk]
  rfl
theorem ExF.dict (T : ExF K mg x b fs) : PySem.W.hasDictIn K (He.ga K x) = true := by
  obtain ⟨q, N, bs, sn, sub, ab, col, dd, k0, k1, k2, k3, k5, lk⟩ := T.lk
  unfold PySem.W.hasDictIn PySem.W.clsIn
  rw [lk]
  rfl
theorem ExF.ox (T : ExF K mg x b fs) : OexC K (He.ga K x) := by
  obtain ⟨q, N, bs, sn, sub, ab, col, dd, k0, k1, k2, k3, k5, lk⟩ := T.lk
  exact ⟨⟨x, q, N, bs, _, sn, sub, ab, col, dd, k0, k1, k2, k3, k5, lk, (show PySem.HandSPX.refsVE He.veBase = true by decide +kernel)⟩, T.sa, T.exC, T.ty, T.kC⟩
/-- two of them: is the one the other -/
theorem kit_two {y : Str} {gs : List Str} (T : ExF K mg x b fs) (U : ExF K mg y b gs) (hb : y ≠ b) (hB : ∃ q N bs bm sn sub ab col dd k0 k1 k2 k3 k5 nid, K.lookup (He.ga K b) = some (excClassObj b q (He.ga K b) N bs bm true sn sub ab col dd k0 k1 k2 k3 k5 nid)) :
    PySem.W.kitOne K (.ref (He.ga K x)) (.ref (He.ga K y)) = some (decide (x = y)) := by
  by_cases e : x = y
  · subst e
    rw [decide_eq_true rfl]
    exact if_pos (by simp)
  · rw [decide_eq_false e]
    obtain ⟨q, N, bs, sn, sub, ab, col, dd, k0, k1, k2, k3, k5, lx⟩ := T.lk
    obtain ⟨q', N', bs', sn', sub', ab', col', dd', k0', k1', k2', k3', k5', ly⟩ := U.lk
    obtain ⟨q2, N2, bs2, bm2, sn2, sub2, ab2, col2, dd2, m0, m1, m2, m3, m5, nid, lb⟩ := hB
    have n1 : He.ga K x ≠ He.ga K y := fun z => by
      rw [z, ly] at lx
      have z1 := Option.some.inj lx
      simp only [excClassObj, Obj.mk.injEq, Data.cls.injEq, ClassData.mk.injEq] at z1
      exact e z1.2.2.1.1.symm
    have n2 : He.ga K b ≠ He.ga K y := fun z => by
      rw [z, ly] at lb
      have z1 := Option.some.inj lb
      simp only [excClassObj, Obj.mk.injEq, Data.cls.injEq, ClassData.mk.injEq] at z1
      exact hb z1.2.2.1.1
    have n3 : ¬ ((Value.ref (He.ga K x) == Value.ref (He.ga K y)) = true) := fun z => n1 (Value.ref.inj (beq_iff_eq.mp z))
    unfold PySem.W.kitOne
    rw [if_neg n3]
    show (if ((PySem.W.clsIn K (He.ga K y)).isSome && PySem.W.typeIn K (.ref (He.ga K y)) == some (.type "type")) = true then PySem.W.subIn K (.ref (He.ga K x)) (.ref (He.ga K y)) else none) = some false
    rw [if_pos (by rw [U.cl, U.ty]; rfl)]
    show PySem.W.mroIn K (He.ga K x) (.ref (He.ga K y)) = some false
    unfold PySem.W.mroIn PySem.W.clsIn
    rw [lx]
    have c1 : (Value.ref (He.ga K y) == Value.ref (He.ga K x)) = false := by
      rw [beq_eq_false_iff_ne]
      exact fun z => n1 (Value.ref.inj z).symm
    have c2 : (Value.ref (He.ga K y) == Value.ref (He.ga K b)) = false := by
      rw [beq_eq_false_iff_ne]
      exact fun z => n2 (Value.ref.inj z).symm
    simp [List.contains_cons, c1, c2, He.veBase]
    exact ⟨fun z => n1 z.symm, fun z => n2 z.symm⟩
end
end My

namespace My
open PySem PySem.Spec PyProof.Rows L2
/-! ### errors as values: made, asked for their class, read -/
section
variable {X : Cx} {e : Expr} {es : List Expr} {ta : TA} {te : TE} {p pos : Pos} {x b n : Str} {fs : List Str}
/-- X(), no __init__ of its own -/
theorem pe_exv0 (T : ExF X.K X.mg x b fs) (nf : fs = []) (hg : Gl X x) (dbg : (x == ("__debug__" : Str)) = false := by decide) :
    PE X (.Call (.Name x p) [] [] pos) (fun _ H Q => ∀ a, H a = none → Q (.ref a) (upd H a (exo a (He.ga X.K x) none))) := by
  refine ⟨fun pins s σ H Q I h => ?_⟩
  refine wpAny_Call_Name_kw (ld_glob I hg T.g ?_ dbg)
  refine PySem.W.callWith_K0 I.kIn T.kC ?_
  show wpAny _ _ (call (.ref (He.ga X.K x)) []) _ _ _
  obtain ⟨bm, N, nm, qn, bs, hdct, sn, sub, ab, col, dd, k0, k1, k2, k3, k5, mN, hC, hN, hni, TL⟩ := exc_obj I.kIn (T.new nf)
  refine wpAny_call_exc_subT PySem.F.excBase_ValueError TL hC hN hni (fun h' a hm => ?_) (by show 0 ≤ sizeLine; exact Nat.zero_le _)
  have hn : H a = none := I.hok.gone hm.new
  obtain ⟨tt, et, _, _⟩ := hm.there
  exact ⟨.ref a, _, I.laidN hm.keeps hm.new hn (exo_ok et), rfl, h a hn⟩
/-- the reading of X(e, ..) with an __init__ that keeps sp -/
def tExv (C : Addr) (sp : Sp) (ta : TA) : TE := fun σ H Q => ta σ H fun vs H1 => vs.length ≤ 1000 ∧ ∀ a, H1 a = none →
  sp (.ref a :: vs) (upd H1 a (exo a C none)) (fun v H2 => v = .non ∧ Q (.ref a) H2) fun _ _ _ => False
theorem pe_exv {CX : CXT} {k : Nat} {fI : Addr} {fd : FuncData} {ps : List Str} {sp : Sp} (T : ExF X.K X.mg x b fs) (nf : fs ≠ []) (ef : fI = He.ma X.K (He.ga X.K x) "__init__") (F1 : FnOk X.prog X.w X.K X.mg X.base CX k fI fd ps sp)
    (hr : Room (k + 1) X.A) (hb : Binds X.K fd ps []) (hx : Passes CX X (fun _ _ _ => False)) (hg : Gl X x) (ha : PA X (e :: es) ta)
    (dbg : (x == ("__debug__" : Str)) = false := by decide) (hst : starEach (e :: es) X.env = (false, eval e X.env) :: starEach es X.env := by rfl) (hpl : (backTo pos (starEach es X.env)).any (·.1) = false := by rfl) :
    PE X (.Call (.Name x p) (e :: es) [] pos) (tExv (He.ga X.K x) sp ta) := by
  subst ef
  refine ⟨fun pins s σ H Q I h => ?_⟩
  obtain ⟨iC, tI⟩ := T.ini nf
  obtain ⟨nm, q, N, bs, bm, sn, sub, ab, col, dd, k0, k1, k2, k3, k5, hC, hbm⟩ := T.ox.cls
  refine wpAny_Call_Name_kw (ld_glob I hg T.g ?_ dbg)
  refine PySem.W.callWith_K (h₀ := X.base) I.ok.mod.kin T.kC ?_ hst hpl
  refine thn (ha.run pos pins s σ H _ I h) fun us s1 hh => ?_
  obtain ⟨vs, H1, I1, r1, hz, q1⟩ := hh
  refine ⟨I1.kIn, ?_⟩
  show wpAny _ _ (call (.ref (He.ga X.K x)) us) _ _ _
  obtain ⟨hp, g, dr, tk, os⟩ := s1
  have hup : hp.objs.size ≤ hp.objs.size + 1 := Nat.le_succ _
  have hfr : H1 (hp.objs.size + 1) = none := I1.hok.fresh hup
  have hq := q1 _ hfr
  let h2 : Heap := (hp.push (PySem.W.kdv_tup us)).push (PySem.HandSPX.excO (He.ga X.K x) hp.objs.size)
  have kk : ∀ a o, hp.get? a = some o → h2.get? a = some o := fun a o z => Heap.get?_push_of_some _ (Heap.get?_push_of_some _ z)
  have hget : h2.get? (hp.objs.size + 1) = some (PySem.HandSPX.excO (He.ga X.K x) hp.objs.size) := by
    show ((hp.push (PySem.W.kdv_tup us)).push (PySem.HandSPX.excO (He.ga X.K x) hp.objs.size)).get? _ = _
    heap_get
  have I2 : Inv X pins σ (upd H1 (hp.objs.size + 1) (exo (hp.objs.size + 1) (He.ga X.K x) none)) ⟨h2, g, dr, tk, os⟩ := I1.laid (t' := tk) (h' := h2) kk hup (exo_ok hget)
  have rr : Vals (V.ref (hp.objs.size + 1) :: vs) (Value.ref (hp.objs.size + 1) :: us) := .cons rfl r1
  have hl : (Value.ref (hp.objs.size + 1) :: us).length = ps.length := by
    rw [← rr.length]
    exact F1.len _ _ _ _ hq
  have few : us.length ≤ sizeLine := by rw [← r1.length, sizeLine_eq]; omega
  have hbb := hb ⟨h2, g, dr, tk, os⟩ (Value.ref (hp.objs.size + 1) :: us) I2.kIn (by rw [List.append_nil]; exact hl)
  rw [List.append_nil] at hbb
  refine wpAny_call (PySem.HandSPX.call_own PySem.F.excBase_ValueError (fun Y => PySem.HandSPX.refsVE_contains Y bm hbm) (I1.kIn _ _ hC) (PySem.W.looks_findIn I1.kIn iC) (fun self => PySem.W.bind_fn I1.kIn self tI) few ?_)
  refine codeAny_mono (F1.run _ X.stack _ _ ⟨Value.ref (hp.objs.size + 1) :: us, []⟩ _ _ _ (fun _ _ _ => False) (hr.make (He.ga X.K x) us []) (I2.env0.make (He.ga X.K x) us []) hbb rr hq) fun r s' out => ?_
  cases r with
  | error er => exact hx pins σ _ _ er s' I2 out
  | ok fl =>
    cases fl with
    | ret u =>
      obtain ⟨v, H2, os2, bare2, un2, hok2, rv, ev, q2⟩ := out
      subst ev
      exact ⟨rv, .ref (hp.objs.size + 1), H2, I2.call' (ch := []) os2 un2 hok2 bare2 (fun b z => absurd z (by simp)), rfl, q2⟩
    | next => exact out.elim
    | brk => exact out.elim
    | cont => exact out.elim
/-- what the state knows of the error at a: tracked, or held by the suite -/
def ExKnown (H : Hp) (pn : List (Addr × Obj)) (C a : Addr) : Prop := (∃ d, H a = some (exo a C d) ∧ ∀ dd, d = some dd → ∃ fs, H dd = some (exd dd fs)) ∨
  ∃ oe, (a, oe) ∈ pn ∧ oe.cls = .ref C ∧ (∃ vs, oe.data = .fields vs) ∧ ∀ dd, oe.dict = some dd → ∃ fs, H dd = some (.xd fs)
/-- isinstance(e, c) -/
def rIsx (K : PySem.W.Frag) (mg : Str → Option Value) (pn : List (Addr × Obj)) : List V → Hp → VK → Prop := fun xs H Q => ∃ (a : Addr) (c : V) (cv : Value) (y z : Str) (gs : List Str) (r : Bool), xs = [.ref a, c] ∧ (∀ u, RelV c u → u = cv) ∧ ExF K mg y z gs ∧
  ExKnown H pn (He.ga K y) a ∧ PySem.W.kitOne K (.ref (He.ga K y)) cv = some r ∧ Q (.bl r) H
theorem call_isx (hn : PySem.W.specialIn X.K (.builtin "object.__class__") "__get__" = some (some (.builtin "getset_descriptor.__get__"))) (ht : PySem.W.takesIn X.K (.builtin "object.__class__") = some true) :
    CallR X (.builtin "isinstance") (rIsx X.K X.mg X.pn) := by
  intro pns s σ H xs us Q I r h
  obtain ⟨a, c, cv, y, z, gs, b, rfl, hcv, T, kn, e, q⟩ := h
  cases r with
  | cons rx rr =>
    cases rr with
    | cons rt rr =>
      cases rr
      cases rx
      have ec := hcv _ rt
      subst ec
      obtain ⟨oe, od, J⟩ : ∃ oe od, PySem.W.InstAt s.heap a oe (He.ga X.K y) od := by
        rcases kn with ⟨d, ea, hd⟩ | ⟨oe, hp, h1, ⟨vs, h2⟩, h3⟩
        · obtain ⟨t1, ho⟩ := exo_at I.hok ea
          cases d with
          | none => exact ⟨_, none, ⟨ho, rfl, rfl, trivial⟩⟩
          | some dd =>
            obtain ⟨f2, ed⟩ := hd dd rfl
            obtain ⟨mA, hns, _⟩ := exd_at I.hok ed
            obtain ⟨o2, ho2, _⟩ := lookIn_ns hns
            exact ⟨_, some o2, ⟨ho, rfl, rfl, ho2⟩⟩
        · obtain ⟨hget, _⟩ := I.pin (a, oe) (List.mem_append.mpr (.inl hp))
          obtain ⟨oc, dct, oda, osl⟩ := oe
          dsimp only at h1 h2 h3
          subst h1 h2
          cases dct with
          | none => exact ⟨_, none, ⟨hget, rfl, rfl, trivial⟩⟩
          | some dd =>
            obtain ⟨f2, ed⟩ := h3 dd rfl
            obtain ⟨mA, hns, _⟩ := (show ObjOk X.prog X.w H s.heap dd (.xd f2) from I.hok dd _ ed)
            obtain ⟨o2, ho2, _⟩ := lookIn_ns hns
            exact ⟨_, some o2, ⟨hget, rfl, rfl, ho2⟩⟩
      exact PySem.W.kia_one (PySem.W.kitx_exc T.cl T.ga T.gg T.exC T.ca hn ht T.mo) I.kIn J e (fun z => nomatch z) fun tk => ⟨.bl b, H, I.tok tk, rfl, q⟩
/-- e.f of a tracked error -/
def tXat (K : PySem.W.Frag) (mg : Str → Option Value) (f : Str) (te : TE) : TE := fun σ H Q => te σ H fun v H1 => ∃ (a d : Addr) (y z : Str) (gs : List Str) (fs : List (Str × V)) (u : V), v = .ref a ∧ ExF K mg y z gs ∧ f ∈ gs ∧
  H1 a = some (exo a (He.ga K y) (some d)) ∧ H1 d = some (exd d fs) ∧ fs.lookup f = some u ∧ Q u H1
theorem pe_xat (he : PE X e te) (hb : attributeBase e n X.env (eval e X.env) = eval e X.env := by rfl) : PE X (.Attribute e n pos) (tXat X.K X.mg n te) := by
  refine ⟨fun pins s σ H Q I h => ?_⟩
  refine attr_of hb (thn (he.run pins s σ H _ I h) fun u s1 hh => ?_)
  obtain ⟨v, H1, I1, rv, a, d, y, z, gs, fs, w, rfl, T, hf, ea, ed, l, q⟩ := hh
  cases rv
  obtain ⟨t1, ho⟩ := exo_at I1.hok ea
  obtain ⟨mA, hns, hr⟩ := exd_at I1.hok ed
  obtain ⟨od, hod, hl⟩ := lookIn_ns hns
  obtain ⟨uw, hu, ru⟩ := RelO.some_of (v := w) (o := mA n) (by rw [← l]; exact hr n)
  have J : PySem.W.InstAt s1.heap a _ (He.ga X.K y) (some od) := ⟨ho, rfl, rfl, hod⟩
  exact HandSPX.exc_get I1.kIn J T.ga T.gg T.exC (PySem.W.findObj_own T.dict (T.no n hf) rfl (by rw [hl, hu])) (handed_of ru) ⟨w, H1, I1.tok _, ru, q⟩
end
end My

namespace My
open PySem PySem.Spec PyProof.Rows L2
/-! ### the __init__ of an error -/
def spIni (C : Addr) (fs : List Str) : Sp := fun vs H Q _ => ∃ (a : Addr) (ys : List V), vs = .ref a :: ys ∧ ys.length = fs.length ∧ H a = some (exo a C none) ∧
  ∀ d H', H d = none → d ≠ a → H' a = some (exo a C (some d)) → H' d = some (exd d (fs.zip ys).reverse) → (∀ b o, b ≠ a → H b = some o → H' b = some o) → Q .non H'
/-- the def __init__ of the class x, as it stands -/
def AtI (K : PySem.W.Frag) (x q : Str) (st : Stmt) : Prop := ∃ fd, FunD K "__init__" q (defArgs st) (defBody st) (defScope st) [] [] (He.ma K (He.ga K x) "__init__") fd
def KeepsI (P : Program) (w : World) (K : PySem.W.Frag) (mg : Str → Option Value) (base : Heap) (x : Str) (fs : List Str) : Prop :=
  ∃ fd, FnOk P w K mg base CX0 1 (He.ma K (He.ga K x) "__init__") fd ("self" :: fs) (spIni (He.ga K x) fs) ∧ Binds K fd ("self" :: fs) []
section
variable {P : Program} {w : World} {K : PySem.W.Frag} {mg : Str → Option Value} {base : Heap}
abbrev bindsI (st : Stmt) (q : Str) (ps : List Str) : Prop := ∀ (kV doc pm : Value) (an : Option Addr) (cdv ct : Value) (us : List Value), us.length = ps.length → bindArgs (PySem.W.fnOf "__init__" q (defArgs st) (defBody st) (defScope st) .none kV doc pm an cdv ct) ⟨us, []⟩ = pure (ps.zip us)
theorem ini_of {x q : Str} {st : Stmt} {fs : List Str} (F : AtI K x q st) (S : FnScope ("self" :: fs) ("self" :: fs) (defScope st)) (hb : bindsI st q ("self" :: fs))
    (hbody : ∀ (fd : FuncData) (cdv : Value) (A : Around) (outer : List Env) (s : Shared) (H : Hp) (vs : List V) (Q : VK) (E : XK), spIni (He.ga K x) fs vs H Q E →
      ∃ t, PSs (cxOf CX0 P w K mg base ("self" :: fs) q (defScope st) (He.ma K (He.ga K x) "__init__") cdv A outer s H E).nox (defBody st) t ∧ t { nx := fun _ H' => Q .non H', rt := Q } (start ("self" :: fs) vs) H) :
    KeepsI P w K mg base x fs := by
  obtain ⟨fd, F⟩ := F
  refine ⟨fd, F.ok S (fun vs H Q E h => ?_) (fun cdv A outer s H vs Q E hr h => ?_), F.bindsN hb⟩
  · obtain ⟨a, ys, rfl, hl, _⟩ := h
    simp only [List.length_cons, hl]
  · obtain ⟨t, h1, h2⟩ := hbody fd cdv A outer s H vs Q E h
    exact ⟨t, h1.nox, h2⟩
theorem one_of {ys : List V} (h : ys.length = 1) : ∃ y, ys = [y] := match ys, h with | [y], _ => ⟨y, rfl⟩
theorem two_of {ys : List V} (h : ys.length = 2) : ∃ y z, ys = [y, z] := match ys, h with | [y, z], _ => ⟨y, z, rfl⟩
theorem three_of {ys : List V} (h : ys.length = 3) : ∃ y z u, ys = [y, z, u] := match ys, h with | [y, z, u], _ => ⟨y, z, u, rfl⟩
theorem ki_TooLong (F : AtI K "TooLong" "TooLong.__init__" (inClass (top 9) 0)) (T : ExF K mg "TooLong" "BookError" ["most"]) : KeepsI P w K mg base "TooLong" ["most"] := by
  refine ini_of F ⟨rfl, rfl, rfl, by decide +kernel, rfl, by decide +kernel, by decide +kernel⟩ (fun _ _ _ _ _ _ us hl => match us, hl with | [_, _], _ => rfl) (fun fd cdv A outer s H vs Q E h => ?_)
  obtain ⟨a, ys, rfl, hl, ha, k⟩ := h
  obtain ⟨y, rfl⟩ := one_of hl
  refine ⟨_, pss_one (ps_ost (pv 0) (pv 1)), ?_⟩
  refine ⟨_, rfl, _, rfl, a, _, rfl, T.ox, T.no _ (by decide), .inl ⟨ha, fun d hd hne => ?_⟩⟩
  refine k d _ hd hne upd_same ?_ fun b o hb e => ?_
  · rw [upd_ne hne, upd_same]
    rfl
  · rw [upd_ne hb, upd_ne (ne_of_none e hd)]
    exact e
end
end My
set_option Elab.async false
set_option linter.all false
set_option maxRecDepth 100000
set_option maxHeartbeats 8000000
namespace My
open PySem PySem.Spec PyProof.Rows L2
local macro_rules | `(tactic| walk_at "lv") => `(tactic| first | exact Or.inl rfl | exact Or.inr rfl)
/-! ### the class Lot -/
def lotF (lo hi m : Int) (a b c : Addr) : List (Str × V) := putF "downs" (.ref c) (putF "ups" (.ref b) (putF "modulus" (.int m) (putF "inside" (.ref a) (putF "high" (.int hi) (putF "low" (.int lo) [])))))
section
variable {lo hi m : Int} {a b c : Addr}
theorem lf_low : (lotF lo hi m a b c).lookup ("low" : Str) = some (.int lo) := by
  unfold lotF
  rw [lookup_putF, if_neg (by decide +kernel), lookup_putF, if_neg (by decide +kernel), lookup_putF, if_neg (by decide +kernel), lookup_putF, if_neg (by decide +kernel), lookup_putF, if_neg (by decide +kernel), lookup_putF, if_pos rfl]
theorem lf_high : (lotF lo hi m a b c).lookup ("high" : Str) = some (.int hi) := by
  unfold lotF
  rw [lookup_putF, if_neg (by decide +kernel), lookup_putF, if_neg (by decide +kernel), lookup_putF, if_neg (by decide +kernel), lookup_putF, if_neg (by decide +kernel), lookup_putF, if_pos rfl]
theorem lf_inside : (lotF lo hi m a b c).lookup ("inside" : Str) = some (.ref a) := by
  unfold lotF
  rw [lookup_putF, if_neg (by decide +kernel), lookup_putF, if_neg (by decide +kernel), lookup_putF, if_neg (by decide +kernel), lookup_putF, if_pos rfl]
theorem lf_modulus : (lotF lo hi m a b c).lookup ("modulus" : Str) = some (.int m) := by
  unfold lotF
  rw [lookup_putF, if_neg (by decide +kernel), lookup_putF, if_neg (by decide +kernel), lookup_putF, if_pos rfl]
theorem lf_ups : (lotF lo hi m a b c).lookup ("ups" : Str) = some (.ref b) := by
  unfold lotF
  rw [lookup_putF, if_neg (by decide +kernel), lookup_putF, if_pos rfl]
theorem lf_downs : (lotF lo hi m a b c).lookup ("downs" : Str) = some (.ref c) := by
  unfold lotF
  rw [lookup_putF, if_pos rfl]
end
/-- a Lot stands at p -/
def LotAt (C : Addr) (H : Hp) (p : Addr) (lo hi : Int) (ins : List Int) (m : Nat) (us ds : List Int) : Prop :=
  ∃ dx a b c, H p = some (.ins C dx (lotF lo hi m a b c)) ∧ H a = some (.tup (ins.map V.int)) ∧ H b = some (.tup (us.map V.int)) ∧ H c = some (.tup (ds.map V.int))
theorem LotAt.same {C : Addr} {H H' : Hp} {p : Addr} {lo hi : Int} {ins us ds : List Int} {m : Nat} (s : Same H H') (h : LotAt C H p lo hi ins m us ds) : LotAt C H' p lo hi ins m us ds := by
  obtain ⟨dx, a, b, c, h1, h2, h3, h4⟩ := h
  exact ⟨dx, a, b, c, s _ _ h1, s _ _ h2, s _ _ h3, s _ _ h4⟩
structure LotTxt (K : PySem.W.Frag) (mg : Str → Option Value) (C : Addr) : Prop where
  cl : Cls K C
  n1 : NoAttr K C "low"
  n2 : NoAttr K C "high"
  n3 : NoAttr K C "inside"
  n4 : NoAttr K C "modulus"
  n5 : NoAttr K C "ups"
  n6 : NoAttr K C "downs"
  mgC : mg "Lot" = some (.ref C)
  (ha : PySem.W.findIn K (.ref C) "__class__" = some (some (.builtin "object.__class__"))) (hn : PySem.W.specialIn K (.builtin "object.__class__") "__get__" = some (some (.builtin "getset_descriptor.__get__")))
  (ht : PySem.W.takesIn K (.builtin "object.__class__") = some true) (hm : PySem.W.mroIn K C (.type "object") = some true)
  notStr : PySem.W.kitOne K (.ref C) (.type "str") = some false
  isLot : PySem.W.kitOne K (.ref C) (.ref C) = some true
/-- a def of the class at C, as it stands -/
def AtM (K : PySem.W.Frag) (C : Addr) (g : Addr) (nm q : Str) (st : Stmt) : Prop := ∃ fd, FunD K nm q (defArgs st) (defBody st) (defScope st) [] [] g fd
def KeepsM (P : Program) (w : World) (K : PySem.W.Frag) (mg : Str → Option Value) (base : Heap) (g : Addr) (k : Nat) (ps : List Str) (sp : Sp) : Prop :=
  ∃ fd, FnOk P w K mg base CX0 k g fd ps sp ∧ Binds K fd ps []
section
variable {P : Program} {w : World} {K : PySem.W.Frag} {mg : Str → Option Value} {base : Heap}
abbrev bindsM (st : Stmt) (nm q : Str) (ps : List Str) : Prop := ∀ (kV doc pm : Value) (an : Option Addr) (cdv ct : Value) (us : List Value), us.length = ps.length → bindArgs (PySem.W.fnOf nm q (defArgs st) (defBody st) (defScope st) .none kV doc pm an cdv ct) ⟨us, []⟩ = pure (ps.zip us)
theorem keepsM_of {C g : Addr} {nm q : Str} {st : Stmt} {N ps : List Str} {k : Nat} {sp : Sp} (F : AtM K C g nm q st) (S : FnScope N ps (defScope st)) (hb : bindsM st nm q ps) (len : ∀ vs H Q E, sp vs H Q E → vs.length = ps.length)
    (hbody : ∀ (cdv : Value) (A : Around) (outer : List Env) (s : Shared) (H : Hp) (vs : List V) (Q : VK) (E : XK), Room k (A.deeper (envOfC q (defScope st) s.heap.objs.size g cdv)) → sp vs H Q E →
      ∃ t, PSs (cxOf CX0 P w K mg base N q (defScope st) g cdv A outer s H E).nox (defBody st) t ∧ t { nx := fun _ H' => Q .non H', rt := Q } (start N vs) H) : KeepsM P w K mg base g (k + 1) ps sp := by
  obtain ⟨fd, F⟩ := F
  refine ⟨fd, F.ok S len (fun cdv A outer s H vs Q E hr h => ?_), F.bindsN hb⟩
  obtain ⟨t, h1, h2⟩ := hbody cdv A outer s H vs Q E hr h
  exact ⟨t, h1.nox, h2⟩
/-! ### Lot.__init__ -/
def spLotI (C : Addr) : Sp := fun vs H Q _ => ∃ (p dx a b c : Addr) (lo hi : Int) (m : Nat) (ins us ds : List Int), vs = [.ref p, .int lo, .int hi, .ref a, .int m, .ref b, .ref c] ∧ H p = some (.ins C dx []) ∧
  H a = some (.lst (ins.map V.int)) ∧ H b = some (.lst (us.map V.int)) ∧ H c = some (.lst (ds.map V.int)) ∧
  ∀ H', LotAt C H' p lo hi ins m us ds → (∀ x o, x ≠ p → H x = some o → H' x = some o) → Q .non H'
abbrev s_lotI : Stmt := inClass (top 13) 0
abbrev N_lotI : List Str := ["self", "low", "high", "inside", "modulus", "ups", "downs"]
theorem sc_lotI : FnScope N_lotI ["self", "low", "high", "inside", "modulus", "ups", "downs"] (defScope s_lotI) := ⟨rfl, rfl, rfl, by decide +kernel, rfl, by decide +kernel, by decide +kernel⟩
theorem putF_small {f : Str} {v : V} {fs : List (Str × V)} {n : Nat} (h : fs.length ≤ n) : (putF f v fs).length ≤ n + 1 := Nat.le_trans (length_putF f v fs) (by omega)
theorem kp_lotI {C g : Addr} (F : AtM K C g "__init__" "Lot.__init__" s_lotI) (T : LotTxt K mg C) (N : Nb mg) : KeepsM P w K mg base g 1 ["self", "low", "high", "inside", "modulus", "ups", "downs"] (spLotI C) := by
  refine keepsM_of F sc_lotI (fun _ _ _ _ _ _ us hl => match us, hl with | [_, _, _, _, _, _, _], _ => rfl) (fun vs H Q E h => ?_) (fun cdv A outer s H vs Q E hr h => ?_)
  · obtain ⟨p, dx, a, b, c, lo, hi, m, ins, us, ds, rfl, _⟩ := h
    rfl
  · obtain ⟨p, dx, a, b, c, lo, hi, m, ins, us, ds, rfl, hp, ha, hb, hc, k⟩ := h
    refine ⟨_, (pss_cons (ps_fld (pv 0) (pv 1) rfl)
        (pss_cons (ps_fld (pv 0) (pv 2) rfl)
        (pss_cons (ps_fld (pv 0) (pe_callTy call_tuple_of (by rfl) N.tuple (by decide +kernel) (pa_cons (pv 3) pa_nil)) rfl)
        (pss_cons (ps_fld (pv 0) (pv 4) rfl)
        (pss_cons (ps_fld (pv 0) (pe_callTy call_tuple_of (by rfl) N.tuple (by decide +kernel) (pa_cons (pv 5) pa_nil)) rfl)
        (pss_one (ps_fld (pv 0) (pe_callTy call_tuple_of (by rfl) N.tuple (by decide +kernel) (pa_cons (pv 6) pa_nil)) rfl))))))), ?_⟩
    have pa : a ≠ p := ne_of ha hp (by intro z; cases z)
    have pb : b ≠ p := ne_of hb hp (by intro z; cases z)
    have pc : c ≠ p := ne_of hc hp (by intro z; cases z)
    have f1 : (putF "low" (V.int lo) []).length ≤ 1 := putF_small (Nat.le_refl 0)
    have f2 := putF_small (f := "high") (v := V.int hi) f1
    refine ⟨_, rfl, _, rfl, p, C, dx, _, rfl, hp, T.cl, T.n1, (by show 0 < 1000; decide), ?_⟩
    refine ⟨_, rfl, _, rfl, p, C, dx, _, rfl, upd_same, T.cl, T.n2, (by omega), ?_⟩
    refine ⟨_, rfl, a, _, rfl, .inl ⟨SqL.of (by rw [upd_ne pa, upd_ne pa]; exact ha), fun l1 hl1 => ?_⟩⟩
    have pl1 : p ≠ l1 := ne_of_none upd_same hl1
    have f3 := putF_small (f := "inside") (v := V.ref l1) f2
    have f4 := putF_small (f := "modulus") (v := V.int m) f3
    refine ⟨_, rfl, p, C, dx, _, rfl, (by rw [upd_ne pl1]; exact upd_same), T.cl, T.n3, (by omega), ?_⟩
    refine ⟨_, rfl, _, rfl, p, C, dx, _, rfl, upd_same, T.cl, T.n4, (by omega), ?_⟩
    have bl1 : b ≠ l1 := ne_of_none (by rw [upd_ne pb, upd_ne pb]; exact hb) hl1
    have cl1 : c ≠ l1 := ne_of_none (by rw [upd_ne pc, upd_ne pc]; exact hc) hl1
    refine ⟨_, rfl, b, _, rfl, .inl ⟨SqL.of (by rw [upd_ne pb, upd_ne pb, upd_ne bl1, upd_ne pb, upd_ne pb]; exact hb), fun l2 hl2 => ?_⟩⟩
    have pl2 : p ≠ l2 := ne_of_none upd_same hl2
    have l12 : l1 ≠ l2 := ne_of_none (by rw [upd_ne pl1.symm, upd_ne pl1.symm]; exact upd_same) hl2
    have cl2 : c ≠ l2 := ne_of_none (by rw [upd_ne pc, upd_ne pc, upd_ne cl1, upd_ne pc, upd_ne pc]; exact hc) hl2
    have f5 := putF_small (f := "ups") (v := V.ref l2) f4
    refine ⟨_, rfl, p, C, dx, _, rfl, (by rw [upd_ne pl2]; exact upd_same), T.cl, T.n5, (by omega), ?_⟩
    refine ⟨_, rfl, c, _, rfl, .inl ⟨SqL.of (by rw [upd_ne pc, upd_ne cl2, upd_ne pc, upd_ne pc, upd_ne cl1, upd_ne pc, upd_ne pc]; exact hc), fun l3 hl3 => ?_⟩⟩
    have pl3 : p ≠ l3 := ne_of_none upd_same hl3
    have l13 : l1 ≠ l3 := ne_of_none (by rw [upd_ne pl1.symm, upd_ne l12, upd_ne pl1.symm, upd_ne pl1.symm]; exact upd_same) hl3
    have l23 : l2 ≠ l3 := ne_of_none (by rw [upd_ne pl2.symm]; exact upd_same) hl3
    refine ⟨_, rfl, p, C, dx, _, rfl, (by rw [upd_ne pl3]; exact upd_same), T.cl, T.n6, (by omega), ?_⟩
    refine k _ ⟨dx, l1, l2, l3, upd_same, ?_, ?_, ?_⟩ fun x o hx e => ?_
    · rw [upd_ne pl1.symm, upd_ne l13, upd_ne pl1.symm, upd_ne l12, upd_ne pl1.symm, upd_ne pl1.symm]; exact upd_same
    · rw [upd_ne pl2.symm, upd_ne l23, upd_ne pl2.symm]; exact upd_same
    · rw [upd_ne pl3.symm]; exact upd_same
    · have x1 : x ≠ l1 := ne_of_none (by rw [upd_ne hx, upd_ne hx]; exact e) hl1
      have x2 : x ≠ l2 := ne_of_none (by rw [upd_ne hx, upd_ne hx, upd_ne x1, upd_ne hx, upd_ne hx]; exact e) hl2
      have x3 : x ≠ l3 := ne_of_none (by rw [upd_ne hx, upd_ne x2, upd_ne hx, upd_ne hx, upd_ne x1, upd_ne hx, upd_ne hx]; exact e) hl3
      rw [upd_ne hx, upd_ne x3, upd_ne hx, upd_ne x2, upd_ne hx, upd_ne hx, upd_ne x1, upd_ne hx, upd_ne hx]; exact e
end
end My
set_option Elab.async false
set_option linter.all false
set_option maxRecDepth 100000
set_option maxHeartbeats 8000000
namespace My
open PySem PySem.Spec PyProof.Rows L2
local macro_rules | `(tactic| walk_at "lv") => `(tactic| first | exact Or.inl rfl | exact Or.inr rfl)
/-! ### data of ints and bools -/
theorem dp_ints {K : PySem.W.Frag} {H : Hp} : ∀ ns : List Int, DpAll K H (ns.map V.int) (ns.map PyData.int)
  | [] => .nil
  | n :: r => .cons (.int n) (dp_ints r)
theorem lay_ints : ∀ ns : List Int, PyData.canLayAll0 (ns.map PyData.int) = true ∧ PyData.depthAll (ns.map PyData.int) = 0
  | [] => ⟨rfl, rfl⟩
  | n :: r => by
    obtain ⟨h1, h2⟩ := lay_ints r
    exact ⟨by show (_ && _) = true; rw [h1]; rfl, by show max _ _ = 0; rw [h2]; rfl⟩
theorem eqv_ints : ∀ ns ms : List Int, PyData.eqvAll (ns.map PyData.int) (ms.map PyData.int) = decide (ns = ms)
  | [], [] => by simp [PyData.eqvAll]
  | [], _ :: _ => by simp [PyData.eqvAll]
  | _ :: _, [] => by simp [PyData.eqvAll]
  | n :: r, m :: t => by
    show (PyData.eqv (.int n) (.int m) && PyData.eqvAll (r.map PyData.int) (t.map PyData.int)) = _
    rw [eqv_ints r t]
    show ((n == m) && _) = _
    by_cases h : n = m
    · subst h; simp
    · simp [h]
theorem dp_bls {K : PySem.W.Frag} {H : Hp} : ∀ ns : List Bool, DpAll K H (ns.map V.bl) (ns.map PyData.bool)
  | [] => .nil
  | n :: r => .cons (.bl n) (dp_bls r)
theorem lay_bls : ∀ ns : List Bool, PyData.canLayAll0 (ns.map PyData.bool) = true ∧ PyData.depthAll (ns.map PyData.bool) = 0
  | [] => ⟨rfl, rfl⟩
  | n :: r => by
    obtain ⟨h1, h2⟩ := lay_bls r
    exact ⟨by show (_ && _) = true; rw [h1]; rfl, by show max _ _ = 0; rw [h2]; rfl⟩
theorem eqv_bls : ∀ ns ms : List Bool, PyData.eqvAll (ns.map PyData.bool) (ms.map PyData.bool) = decide (ns = ms)
  | [], [] => by simp [PyData.eqvAll]
  | [], _ :: _ => by simp [PyData.eqvAll]
  | _ :: _, [] => by simp [PyData.eqvAll]
  | n :: r, m :: t => by
    show (PyData.eqv (.bool n) (.bool m) && PyData.eqvAll (r.map PyData.bool) (t.map PyData.bool)) = _
    rw [eqv_bls r t]
    show ((n == m) && _) = _
    by_cases h : n = m
    · subst h; simp
    · simp [h]
theorem shp_tup {ds : List PyData} {n : Nat} (h : PyData.canLayAll0 ds = true) (h2 : PyData.depthAll ds = n) (hn : n ≤ 63) : SeqAt.shaped (.tuple ds) = true := by
  show (_ && _) = true
  refine Bool.and_eq_true_iff.mpr ⟨h, decide_eq_true ?_⟩
  show PyData.depthAll ds + 1 ≤ 64
  omega
theorem shp_lst {ds : List PyData} {n : Nat} (h : PyData.canLayAll0 ds = true) (h2 : PyData.depthAll ds = n) (hn : n ≤ 63) : SeqAt.shaped (.list ds) = true := by
  show (_ && _) = true
  refine Bool.and_eq_true_iff.mpr ⟨h, decide_eq_true ?_⟩
  show PyData.depthAll ds + 1 ≤ 64
  omega
theorem shp_ti (ns : List Int) : SeqAt.shaped (.tuple (ns.map PyData.int)) = true := shp_tup (lay_ints ns).1 (lay_ints ns).2 (by decide)
theorem inV_ints (n : Int) : ∀ ns : List Int, inV (.int n) (ns.map V.int) = decide (n ∈ ns)
  | [] => by simp [inV]
  | m :: r => by
    show ((m == n) || inV (.int n) (r.map V.int)) = _
    rw [inV_ints n r]
    by_cases h : m = n
    · subst h; simp
    · have : ¬ n = m := fun z => h z.symm
      simp [h, this]
theorem flat_ints : ∀ ns : List Int, (ns.map V.int).all flatV = true
  | [] => rfl
  | n :: r => by
    show (_ && _) = true
    rw [flat_ints r]; rfl
theorem vdec (a b : Int) : decide (V.int a = V.int b) = decide (a = b) := by
  by_cases h : a = b
  · subst h; simp
  · simp [h]
theorem eqv_ti (a b : List Int) : PyData.eqv (.tuple (a.map PyData.int)) (.tuple (b.map PyData.int)) = decide (a = b) := eqv_ints a b
section
variable {P : Program} {w : World} {K : PySem.W.Frag} {mg : Str → Option Value} {base : Heap}
/-! ### Lot.__contains__ -/
def lotHas (lo hi : Int) (ins : List Int) (m : Nat) (us ds : List Int) (n : Int) : Bool := if hi < n then decide (n % (m : Int) ∈ us) else if n < lo then decide (n % (m : Int) ∈ ds) else decide (n ∈ ins)
def spLotC (C : Addr) : Sp := fun vs H Q _ => ∃ (p : Addr) (n lo hi : Int) (m : Nat) (ins us ds : List Int), vs = [.ref p, .int n] ∧ LotAt C H p lo hi ins m us ds ∧ 0 < m ∧ Q (.bl (lotHas lo hi ins m us ds n)) H
abbrev s_lotC : Stmt := inClass (top 13) 2
abbrev N_lotC : List Str := ["self", "number"]
theorem sc_lotC : FnScope N_lotC ["self", "number"] (defScope s_lotC) := ⟨rfl, rfl, rfl, by decide +kernel, rfl, by decide +kernel, by decide +kernel⟩
theorem kp_lotC {C g : Addr} (F : AtM K C g "__contains__" "Lot.__contains__" s_lotC) (T : LotTxt K mg C) : KeepsM P w K mg base g 1 ["self", "number"] (spLotC C) := by
  refine keepsM_of F sc_lotC (fun _ _ _ _ _ _ us hl => match us, hl with | [_, _], _ => rfl) (fun vs H Q E h => ?_) (fun cdv A outer s H vs Q E hr h => ?_)
  · obtain ⟨p, n, lo, hi, m, ins, us, ds, rfl, _⟩ := h
    rfl
  · obtain ⟨p, n, lo, hi, m, ins, us, ds, rfl, ⟨dx, a, b, c, hp, ha, hb, hc⟩, hm, k⟩ := h
    have hm' : (0 : Int) < (m : Int) := by omega
    refine ⟨_, (pss_cons (ps_if (pt_cmpR op_gt (pv 1) (pe_fld (pv 0) rfl) (nomark _)) (pss_one (ps_ret (pe_cmpR op_in_seq (pe_op op_mod (pv 1) (pe_fld (pv 0) rfl)) (pe_fld (pv 0) rfl) (by rfl)))) pss_nil)
        (pss_cons (ps_if (pt_cmpR op_lt (pv 1) (pe_fld (pv 0) rfl) (nomark _)) (pss_one (ps_ret (pe_cmpR op_in_seq (pe_op op_mod (pv 1) (pe_fld (pv 0) rfl)) (pe_fld (pv 0) rfl) (by rfl)))) pss_nil)
        (pss_one (ps_ret (pe_cmpR op_in_seq (pv 1) (pe_fld (pv 0) rfl) (by rfl)))))), ?_⟩
    unfold lotHas at k
    refine ⟨_, rfl, _, rfl, p, C, dx, _, _, rfl, hp, T.cl, T.n2, lf_high, _, _, rfl, rfl, _, rfl, ?_⟩
    refine ite2 (fun h1 => ?_) (fun h1 => ?_)
    · have h1 := of_decide_eq_true h1
      rw [if_pos h1] at k
      refine ⟨_, rfl, _, rfl, p, C, dx, _, _, rfl, hp, T.cl, T.n4, lf_modulus, _, _, rfl, rfl, hm', ?_⟩
      refine ⟨_, rfl, p, C, dx, _, _, rfl, hp, T.cl, T.n5, lf_ups, b, _, rfl, .inr (SqT.of hb), rfl, flat_ints _, ?_⟩
      show Q (.bl (inV _ _)) _
      rw [inV_ints]
      exact k
    · have h1 : ¬ hi < n := fun z => h1 (decide_eq_true z)
      rw [if_neg h1] at k
      refine ⟨_, rfl, _, rfl, p, C, dx, _, _, rfl, hp, T.cl, T.n1, lf_low, _, _, rfl, rfl, _, rfl, ?_⟩
      refine ite2 (fun h2 => ?_) (fun h2 => ?_)
      · have h2 := of_decide_eq_true h2
        rw [if_pos h2] at k
        refine ⟨_, rfl, _, rfl, p, C, dx, _, _, rfl, hp, T.cl, T.n4, lf_modulus, _, _, rfl, rfl, hm', ?_⟩
        refine ⟨_, rfl, p, C, dx, _, _, rfl, hp, T.cl, T.n6, lf_downs, c, _, rfl, .inr (SqT.of hc), rfl, flat_ints _, ?_⟩
        show Q (.bl (inV _ _)) _
        rw [inV_ints]
        exact k
      · have h2 : ¬ n < lo := fun z => h2 (decide_eq_true z)
        rw [if_neg h2] at k
        refine ⟨_, rfl, _, rfl, p, C, dx, _, _, rfl, hp, T.cl, T.n3, lf_inside, a, _, rfl, .inr (SqT.of ha), rfl, flat_ints _, ?_⟩
        show Q (.bl (inV _ _)) _
        rw [inV_ints]
        exact k
/-! ### Lot.__eq__ -/
def lotEq (lo hi : Int) (ins : List Int) (m : Int) (us ds : List Int) (lo' hi' : Int) (ins' : List Int) (m' : Int) (us' ds' : List Int) : Bool :=
  decide (lo = lo') && (decide (hi = hi') && (decide (ins = ins') && (decide (m = m') && (decide (us = us') && decide (ds = ds')))))
def spLotE (C : Addr) : Sp := fun vs H Q _ => ∃ (p q : Addr) (lo hi lo' hi' : Int) (m m' : Nat) (ins us ds ins' us' ds' : List Int), vs = [.ref p, .ref q] ∧ LotAt C H p lo hi ins m us ds ∧ LotAt C H q lo' hi' ins' m' us' ds' ∧
  Q (.bl (lotEq lo hi ins m us ds lo' hi' ins' m' us' ds')) H
abbrev s_lotE : Stmt := inClass (top 13) 1
abbrev N_lotE : List Str := ["self", "other"]
theorem sc_lotE : FnScope N_lotE ["self", "other"] (defScope s_lotE) := ⟨rfl, rfl, rfl, by decide +kernel, rfl, by decide +kernel, by decide +kernel⟩
theorem kp_lotE {C g : Addr} (F : AtM K C g "__eq__" "Lot.__eq__" s_lotE) (T : LotTxt K mg C) (N : Nb mg) : KeepsM P w K mg base g 1 ["self", "other"] (spLotE C) := by
  refine keepsM_of F sc_lotE (fun _ _ _ _ _ _ us hl => match us, hl with | [_, _], _ => rfl) (fun vs H Q E h => ?_) (fun cdv A outer s H vs Q E hr h => ?_)
  · obtain ⟨p, q, lo, hi, lo', hi', m, m', ins, us, ds, ins', us', ds', rfl, _⟩ := h
    rfl
  · obtain ⟨p, q, lo, hi, lo', hi', m, m', ins, us, ds, ins', us', ds', rfl, ⟨dx, a, b, c, hp, ha, hb, hc⟩, ⟨dx', a', b', c', hp', ha', hb', hc'⟩, k⟩ := h
    refine ⟨_, (pss_one (ps_ret (pe_and (pe_callB call_isi (by rfl) N.isinstance boot_isinstance (pa_cons (pv 1) (pa_cons (pe_glob (v := .ref C) (by rfl) T.mgC rfl) pa_nil))) (pe_and (pe_cmpR op_eq (pe_fld (pv 0) rfl) (pe_fld (pv 1) rfl) (nomark _)) (pe_and (pe_cmpR op_eq (pe_fld (pv 0) rfl) (pe_fld (pv 1) rfl) (nomark _)) (pe_and (pe_cmpR (op_eqD hr.units) (pe_fld (pv 0) rfl) (pe_fld (pv 1) rfl) (nomark _)) (pe_and (pe_cmpR op_eq (pe_fld (pv 0) rfl) (pe_fld (pv 1) rfl) (nomark _)) (pe_and (pe_cmpR (op_eqD hr.units) (pe_fld (pv 0) rfl) (pe_fld (pv 1) rfl) (nomark _)) (pe_one (pe_cmpR (op_eqD hr.units) (pe_fld (pv 0) rfl) (pe_fld (pv 1) rfl) (nomark _))))))))))), ?_⟩
    unfold lotEq at k
    refine ⟨_, rfl, .ref q, .ref C, _, _, true, rfl, .own C, .base (.ins hp' T.cl T.ha T.hn T.ht T.hm), T.isLot, _, rfl, ?_⟩
    refine ⟨_, rfl, p, C, dx, _, _, rfl, hp, T.cl, T.n1, lf_low, _, rfl, q, C, dx', _, _, rfl, hp', T.cl, T.n1, lf_low, rfl, _, rfl, ?_⟩
    rw [vdec]
    cases e : decide (lo = lo') with
    | false => rw [e] at k; exact iteF k
    | true =>
    rw [e] at k
    refine iteT ⟨_, rfl, p, C, dx, _, _, rfl, hp, T.cl, T.n2, lf_high, _, rfl, q, C, dx', _, _, rfl, hp', T.cl, T.n2, lf_high, rfl, _, rfl, ?_⟩
    rw [vdec]
    cases e : decide (hi = hi') with
    | false => rw [e] at k; exact iteF k
    | true =>
    rw [e] at k
    refine iteT ⟨_, rfl, p, C, dx, _, _, rfl, hp, T.cl, T.n3, lf_inside, _, rfl, q, C, dx', _, _, rfl, hp', T.cl, T.n3, lf_inside, _, _, .tup (SqT.of ha) (dp_ints ins), .tup (SqT.of ha') (dp_ints ins'), shp_ti _, shp_ti _, _, rfl, ?_⟩
    rw [eqv_ti]
    cases e : decide (ins = ins') with
    | false => rw [e] at k; exact iteF k
    | true =>
    rw [e] at k
    refine iteT ⟨_, rfl, p, C, dx, _, _, rfl, hp, T.cl, T.n4, lf_modulus, _, rfl, q, C, dx', _, _, rfl, hp', T.cl, T.n4, lf_modulus, rfl, _, rfl, ?_⟩
    rw [vdec]
    cases e : decide ((m : Int) = m') with
    | false => rw [e] at k; exact iteF k
    | true =>
    rw [e] at k
    refine iteT ⟨_, rfl, p, C, dx, _, _, rfl, hp, T.cl, T.n5, lf_ups, _, rfl, q, C, dx', _, _, rfl, hp', T.cl, T.n5, lf_ups, _, _, .tup (SqT.of hb) (dp_ints us), .tup (SqT.of hb') (dp_ints us'), shp_ti _, shp_ti _, _, rfl, ?_⟩
    rw [eqv_ti]
    cases e : decide (us = us') with
    | false => rw [e] at k; exact iteF k
    | true =>
    rw [e] at k
    refine iteT ⟨_, rfl, p, C, dx, _, _, rfl, hp, T.cl, T.n6, lf_downs, _, rfl, q, C, dx', _, _, rfl, hp', T.cl, T.n6, lf_downs, _, _, .tup (SqT.of hc) (dp_ints ds), .tup (SqT.of hc') (dp_ints ds'), shp_ti _, shp_ti _, ?_⟩
    show Q (.bl (PyData.eqv _ _)) _
    rw [eqv_ti]
    exact k
end
end My
set_option Elab.async false
set_option linter.all false
set_option maxRecDepth 100000
set_option maxHeartbeats 8000000
namespace My
open PySem PySem.Spec PyProof.Rows L2
local macro_rules | `(tactic| walk_at "lv") => `(tactic| first | exact Or.inl rfl | exact Or.inr rfl)
/-! ### x in o and a == b by an own __contains__, an own __eq__ -/
section
variable {X : Cx} {CX : CXT} {C f : Addr} {n : Nat} {fd : FuncData} {ps : List Str} {sp : Sp} {E : XK}
theorem run_own {pins : List (Addr × Obj)} {σ : L2.St} {H : Hp} {s : Shared} {a b : V} {u v : Value} {Q : VK} (F : FnOk X.prog X.w X.K X.mg X.base CX n f fd ps sp) (hb : Binds X.K fd ps []) (hx : Passes CX X E) (hr : Room n X.A)
    (I : Inv X pins σ H s) (ra : RelV a u) (rb : RelV b v) (h : sp [a, b] H Q E) : wpAny (model X.prog X.w) X.A (call (.ref f) [u, v]) (EP X pins σ Q) X.xe s := by
  have hl := F.len _ _ _ _ h
  refine wpAny_call (codeAny_mono (F.run X.A X.stack s H ⟨[u, v], []⟩ [u, v] [a, b] Q E hr I.env0 (by
    have := hb s [u, v] I.kIn (by simpa using hl)
    simpa using this) (.cons ra (.cons rb .nil)) h) fun r s' hq => ?_)
  cases r with
  | error er => exact hx pins σ H s er s' I hq
  | ok fl =>
    cases fl with
    | ret w =>
      obtain ⟨z, H', I', rz, q⟩ := I.after hq
      exact ⟨z, H', I', rz, q⟩
    | next => exact False.elim hq
    | brk => exact False.elim hq
    | cont => exact False.elim hq
/-- x in o, o an instance of the own class at C -/
def rInOwn (C : Addr) (sp : Sp) (E : XK) : R2 := fun x y H Q => ∃ a dx fs, y = .ref a ∧ H a = some (.ins C dx fs) ∧ sp [.ref a, x] H (fun v H' => ∃ b, v = .bl b ∧ Q (.bl b) H') E
theorem op_inOwn (F : FnOk X.prog X.w X.K X.mg X.base CX n f fd ps sp) (hs : PySem.W.findIn X.K (.ref C) "__contains__" = some (some (.ref f))) (hf : PySem.W.isFn X.K (.ref f) = true) (hb : Binds X.K fd ps []) (hx : Passes CX X E) (hr : Room n X.A) :
    OpR X (compareOp .In) (rInOwn C sp E) := by
  intro pns s σ H x y v u Q I rx ry h
  obtain ⟨a, dx, fs, rfl, ea, hsp⟩ := h
  cases ry
  obtain ⟨mA, J, _⟩ := ins_get I.hok ea
  have ⟨_, J, _⟩ := J.look
  have Xk := I.kIn
  show wpAny (model X.prog X.w) X.A (do return .bool (← contains (.ref a) v)) (EP X pns σ Q) X.xe s
  refine wpAny_bind ?_
  unfold contains
  refine wpAny_holding ?_
  rw [show stdlibNamesSay? (Value.ref a) v = none from rfl]
  refine wpAny_bind (show wpAny _ _ (specialOf (.ref a) "__contains__") _ _ _ from wpAny_bind (J.type.here ((PySem.W.looks_findIn Xk hs).here ?_)))
  show wpAny _ _ (if (some (Value.ref f) == some Value.none) = true then _ else _) _ _ _
  rw [if_neg (by simp)]
  refine wpAny_bind ?_
  unfold callSpecialUnlessNone?
  refine wpAny_bind (show wpAny _ _ (specialOf (.ref a) "__contains__") _ _ _ from wpAny_bind (J.type.here ((PySem.W.looks_findIn Xk hs).here ?_)))
  refine wpAny_holding (wpAny_bind ((PySem.W.bind_fn Xk _ (beq_iff_eq.mp hf)).here ?_))
  show wpAny _ _ (if (Value.ref f == Value.none) = true then _ else _) _ _ _
  rw [if_neg (by simp)]
  refine wpAny_bind (wpAny_mono (run_own F hb hx hr I (a := .ref a) (b := x) rfl rx hsp) (fun r s' q => ?_) fun _ _ e => e)
  obtain ⟨z, H', I', rz, b, rfl, q⟩ := q
  cases rz
  refine wpAny_pure ?_
  show wpAny _ _ (truthy (Value.bool b)) _ _ _
  exact wpAny_truthy_bool (wpAny_pure ⟨.bl b, H', I', rfl, q⟩)
/-- a == b, both instances of the own class at C -/
def rEqOwn (C : Addr) (sp : Sp) (E : XK) : R2 := fun x y H Q => ∃ a b dx dy fs gs, x = .ref a ∧ y = .ref b ∧ H a = some (.ins C dx fs) ∧ H b = some (.ins C dy gs) ∧ sp [.ref a, .ref b] H (fun v H' => ∃ b, v = .bl b ∧ Q (.bl b) H') E
theorem op_eqOwn (F : FnOk X.prog X.w X.K X.mg X.base CX n f fd ps sp) (hs : PySem.W.findIn X.K (.ref C) "__eq__" = some (some (.ref f))) (hf : PySem.W.isFn X.K (.ref f) = true) (hb : Binds X.K fd ps []) (hx : Passes CX X E) (hr : Room n X.A) :
    OpR X (compareOp .Eq) (rEqOwn C sp E) := by
  intro pns s σ H x y v u Q I rx ry h
  obtain ⟨a, b, dx, dy, fs, gs, rfl, rfl, ha, hb', hsp⟩ := h
  cases rx
  cases ry
  have ⟨_, J, _⟩ := ins_get I.hok ha
  have ⟨_, J', _⟩ := ins_get I.hok hb'
  have ⟨_, J, _⟩ := J.look
  have ⟨_, J', _⟩ := J'.look
  obtain ⟨m, hF⟩ := I.fr
  show wpAny (model X.prog X.w) X.A (richCompare .Eq (.ref a) (.ref b)) (EP X pns σ Q) X.xe s
  refine PySem.W.cmp_K (op := .Eq) (tb := .ref C) hr.units0 hF I.ok.mod.kin J J'.type (by simp [PySem.W.notFirst]) hs hf ?_
  refine wpAny_mono (run_own F hb hx hr I (a := .ref a) (b := .ref b) rfl rfl hsp) (fun r s' q => ?_) fun _ _ e => e
  obtain ⟨z, H', I', rz, c, rfl, q⟩ := q
  cases rz
  exact ⟨.bl c, H', I', rfl, q⟩
end
end My
set_option Elab.async false
set_option linter.all false
set_option maxRecDepth 100000
set_option maxHeartbeats 8000000
namespace My
open PySem PySem.Spec PyProof.Rows L2
local macro_rules | `(tactic| walk_at "lv") => `(tactic| first | exact Or.inl rfl | exact Or.inr rfl)
/-! ### comprehensions that make objects, if at all, and change none -/
theorem lc_itF {J : It} {n : Nat} {G : Hp → Prop} {Y : Nat → Hp → V → Hp → Prop} (w : Walk J n G Y) {g : TG} {tt : TT} {te : TE} {vs : List Nat} {σ : L2.St} {H0 : Hp} {D : Addr} {Qd : Hp → Prop} (hD : H0 D = none) (L : Nat → List V) (h0 : L 0 = [])
    (hl : ∀ i, i < n → (L i).length < sizeLine) (hG : ∀ H, Same H0 H → G H)
    (hs : ∀ i x H H', i < n → H D = some (.lst (L i)) → Same H0 H → Y i H x H' → g x (wipe σ vs) H' fun σ2 H2 => wipe σ2 vs = wipe σ vs ∧ tt σ2 H2 fun b H3 =>
      if b = true then te σ2 H3 fun y H4 => H4 D = some (.lst (L i)) ∧ Same H0 H4 ∧ L (i + 1) = L i ++ [y] else H3 D = some (.lst (L i)) ∧ Same H0 H3 ∧ L (i + 1) = L i)
    (mono : ∀ (x : V) (H' : Hp), ∀ Q Q' : L2.St → Hp → Prop, (∀ σ2 H2, Q σ2 H2 → Q' σ2 H2) → g x (wipe σ vs) H' Q → g x (wipe σ vs) H' Q')
    (monoT : ∀ (σ2 : L2.St) (H2 : Hp), ∀ Q Q' : Bool → Hp → Prop, (∀ b H3, Q b H3 → Q' b H3) → tt σ2 H2 Q → tt σ2 H2 Q')
    (monoE : ∀ (σ2 : L2.St) (H2 : Hp), ∀ Q Q' : V → Hp → Prop, (∀ b H3, Q b H3 → Q' b H3) → te σ2 H2 Q → te σ2 H2 Q')
    (hd : ∀ H, H D = some (.lst (L n)) → Same H0 H → Qd H) :
    ∃ W : Nat → Nat → Hp → Prop, (∃ m, W 0 m (upd H0 D (.lst []))) ∧ ∀ i m H, W i m H →
      (J.stop i H ∧ Qd H) ∨ (J.go i H ∧ ∃ Nx : Hp → Prop, (∀ H', Nx H' → ∃ k, k < m ∧ W (i + 1) k H') ∧ ∀ x H', J.yld i H x H' → g x (wipe σ vs) H' fun σ2 H2 => wipe σ2 vs = wipe σ vs ∧ tt σ2 H2 fun b H3 =>
        if b = true then te σ2 H3 fun y H4 => ∃ xs, H4 D = some (.lst xs) ∧ xs.length < sizeLine ∧ Nx (upd H4 D (.lst (xs ++ [y]))) else Nx H3) := by
  refine lc_it w (fun i H => H D = some (.lst (L i)) ∧ Same H0 H) ⟨by rw [h0]; exact upd_same, same_new (Same.refl H0) hD⟩ (fun i H _ h => hG H h.2) (fun i x H H' hi h y => ?_) (fun H h => hd H h.1 h.2)
  refine mono x H' _ _ (fun σ2 H2 q => ⟨q.1, monoT σ2 H2 _ _ (fun b H3 q2 => ?_) q.2⟩) (hs i x H H' hi h.1 h.2 y)
  cases b with
  | false =>
    refine iteF ?_
    obtain ⟨q1, q3, q4⟩ : _ ∧ _ ∧ _ := q2
    exact ⟨by rw [q4]; exact q1, q3⟩
  | true =>
    refine iteT ?_
    refine monoE σ2 H3 _ _ (fun v H4 q5 => ?_) q2
    obtain ⟨q1, q3, q4⟩ := q5
    refine ⟨_, q1, hl i hi, by rw [q4]; exact upd_same, fun b o e => ?_⟩
    rw [upd_ne (ne_of_none e hD)]
    exact q3 b o e
theorem walk_list2 {K : PySem.W.Frag} {a : Addr} {xs : List V} {H0 : Hp} (h : SqL K H0 a xs) : Walk (Itl K a) xs.length (fun H => Same H0 H) (YAt xs) := walk_list.mono (fun H s => s.seq h) fun _ _ _ _ _ _ y => y
theorem rep_getD (n k : Nat) : (List.replicate n false).getD k false = false := by
  rw [List.getD_eq_getElem?_getD, List.getElem?_replicate]
  split <;> rfl
section
variable {P : Program} {w : World} {K : PySem.W.Frag} {mg : Str → Option Value} {base : Heap}
/-! ### _flags -/
def spFlags : Sp := fun vs H Q _ => ∃ (a : Addr) (ns : List Int) (lo hi : Int), vs = [.int lo, .int hi, .ref a] ∧ SqA H a (ns.map V.int) ∧ lo ≤ hi + 1 ∧ hi - lo < 1000 ∧ -(2 * 10 ^ 31) ≤ lo ∧ hi ≤ 2 * 10 ^ 31 ∧ (∀ n ∈ ns, lo ≤ n ∧ n ≤ hi) ∧
  ∀ p (bs : List Bool) H', H p = none → Same H H' → H' p = some (.lst (bs.map V.bl)) → bs.length = (hi - lo + 1).toNat → (∀ k : Nat, k < bs.length → bs.getD k false = decide (lo + (k : Int) ∈ ns)) → Q (.ref p) H'
abbrev s_flags : Stmt := top 18
abbrev N_flags : List Str := ["low", "high", "numbers", "flags", "number"]
theorem sc_flags : FnScope N_flags ["low", "high", "numbers"] (defScope s_flags) := ⟨rfl, rfl, rfl, by decide +kernel, rfl, by decide +kernel, by decide +kernel⟩
theorem kp_flags (F : At K mg "_flags" s_flags) : Keeps CX0 P w K mg base "_flags" 1 ["low", "high", "numbers"] spFlags := by
  refine keeps_of F sc_flags (fun _ _ _ _ _ _ us hl => match us, hl with | [_, _, _], _ => rfl) (fun vs H Q E h => ?_) (fun f cdv A outer s H vs Q E hr h => ?_)
  · obtain ⟨a, ns, lo, hi, rfl, _⟩ := h
    rfl
  · obtain ⟨a, ns, lo, hi, rfl, hs, h1, h2, h3, h4, hb, k⟩ := h
    refine ⟨_, (pss_cons (ps_set (i := 3) sc_flags.nd rfl (by walk_at "lv") (pe_op op_rep (pe_lst (pa_cons pe_bl pa_nil)) (pe_op op_add (pe_op op_sub (pv 1) (pv 0)) pe_int)))
        (pss_cons (ps_for PassesOwn.never rfl (pi_seqV (pv 2)) (pg_name (i := 4) sc_flags.nd rfl (by walk_at "lv")) (pss_one (ps_asg pe_bl (pg_sub (pv 3) (pe_op op_sub (pv 4) (pv 0)) set_list))))
        (pss_one (ps_ret (pv 3))))), ?_⟩
    refine ⟨(by show 1 ≤ sizeLine; decide), fun l hl => ⟨_, rfl, _, rfl, _, _, rfl, rfl, _, _, rfl, rfl, l, _, _, rfl, rfl, upd_same, by omega, by omega, ?_, fun p hp => ?_⟩⟩
    · show 1 * _ ≤ _
      rw [Nat.one_mul]
      exact Nat.le_of_lt (small1000 (by omega))
    · have s1 := same_new (o := .lst [V.bl false]) (Same.refl H) hl
      have e0 : ∀ n : Nat, (List.replicate n [V.bl false]).flatten = (List.replicate n false).map V.bl := fun n => by rw [rep_flat, List.map_replicate]
      rw [e0]
      have s2 := same_new (o := .lst ((List.replicate (hi - lo + 1).toNat false).map V.bl)) s1 hp
      have hpH : H p = none := s1.free hp
      refine ⟨a, _, rfl, hs.same s2, fun J wk => for_it wk (fun i σ H2 => ∃ (x : Option V) (bs : List Bool), σ = [some (.int lo), some (.int hi), some (.ref a), some (.ref p), x] ∧ H2 p = some (.lst (bs.map V.bl)) ∧ bs.length = (hi - lo + 1).toNat ∧ (∀ k : Nat, k < bs.length → bs.getD k false = decide (lo + (k : Int) ∈ ns.take i)) ∧ Same H H2)
        ⟨_, _, rfl, upd_same, by simp, (fun k hk => by rw [rep_getD]; simp), s2⟩ (fun i σ H2 _ ⟨_, _, _, _, _, _, s3⟩ => by rw [hs.keep s3, hs.keep s2]) ?_ ?_⟩
      · rintro i v σ H2 H3 hi' ⟨x, bs, rfl, e1, e2, e3, s3⟩ ⟨rfl, e4⟩
        obtain ⟨n, hn, rfl⟩ := int_at e4
        have hbn := hb n (List.mem_of_getElem? hn)
        refine ⟨_, rfl, _, rfl, _, rfl, _, _, rfl, rfl, p, _, _, (n - lo).toNat, rfl, rfl, e1, ?_, ?_⟩
        · unfold ixN
          rw [if_pos (by omega), if_pos (by rw [List.length_map]; omega)]
        refine ⟨_, bs.set (n - lo).toNat true, rfl, ?_, by rw [List.length_set]; exact e2, fun k hk => ?_, fun b o e => ?_⟩
        · rw [List.map_set]
          exact upd_same
        · rw [List.length_set] at hk
          obtain ⟨hi3, hi4⟩ := List.getElem?_eq_some_iff.mp hn
          rw [List.take_succ_eq_append_getElem hi3, hi4]
          rw [List.getD_eq_getElem?_getD, List.getElem?_set]
          by_cases q : (n - lo).toNat = k
          · rw [if_pos q, if_pos (by omega)]
            have : lo + (k : Int) = n := by omega
            simp [this]
          · rw [if_neg q, ← List.getD_eq_getElem?_getD, e3 k hk]
            have : ¬ lo + (k : Int) = n := by omega
            simp [this]
        · rw [upd_ne (ne_of_none e hpH)]
          exact s3 b o e
      · rintro σ H2 ⟨x, bs, rfl, e1, e2, e3, s3⟩
        refine ⟨_, rfl, ?_⟩
        refine k p bs H2 hpH s3 e1 e2 fun j hj => ?_
        rw [e3 j hj, List.length_map, List.take_length]
/-! ### _places_of -/
def spPlaces : Sp := fun vs H Q _ => ∃ (a : Addr) (bs : List Bool), vs = [.ref a] ∧ H a = some (.lst (bs.map V.bl)) ∧ bs.length ≤ 1000 ∧ ∀ p H', H p = none → Same H H' → H' p = some (.lst ((res bs).map V.int)) → Q (.ref p) H'
abbrev s_places : Stmt := top 19
abbrev N_places : List Str := ["flags", "place", "told"]
theorem sc_places : FnScope N_places ["flags"] (defScope s_places) := ⟨rfl, rfl, rfl, by decide +kernel, rfl, by decide +kernel, by decide +kernel⟩
theorem bl_at {ns : List Bool} {i : Nat} {x : V} (h : (ns.map V.bl)[i]? = some x) : ∃ z, ns[i]? = some z ∧ x = .bl z := by
  rw [List.getElem?_map] at h
  cases e : ns[i]? with
  | none =>
    rw [e] at h
    cases h
  | some z =>
    rw [e] at h
    exact ⟨z, rfl, (Option.some.inj h).symm⟩
theorem kp_places (F : At K mg "_places_of" s_places) (N : Nb mg) : Keeps CX0 P w K mg base "_places_of" 1 ["flags"] spPlaces := by
  refine keeps_of F sc_places (fun _ _ _ _ _ _ us hl => match us, hl with | [_], _ => rfl) (fun vs H Q E h => ?_) (fun f cdv A outer s H vs Q E hr h => ?_)
  · obtain ⟨a, bs, rfl, _⟩ := h
    rfl
  · obtain ⟨a, bs, rfl, ha, hl, k⟩ := h
    refine ⟨_, (pss_one (ps_ret (pe_lc (own := [("place", 1), ("told", 2)]) (g := gTup K 2 (gCons (gName 1) (gCons (gName 2) gNil))) rfl sc_places.nd (pi_enum (by rfl) N.enumerate (pa_cons (pv 0) pa_nil)) (blkOk_by (N := N_places) (sc := defScope s_places) (by decide +kernel)) (fun _ _ _ _ _ => (pg_tup (by rfl) (pgs_cons (pg_name (i := 1) sc_places.nd rfl (by walk_at "lv")) (pgs_cons (pg_name (i := 2) sc_places.nd rfl (by walk_at "lv")) pgs_nil)))) (fun _ _ _ _ _ => (pts_one (pt_val (pv 2)))) (fun _ _ _ _ _ => (pv 1))))), ?_⟩
    refine ⟨_, rfl, a, _, rfl, SqL.of ha, fun D hD => ?_⟩
    refine lc_it walk_enum (fun i H3 => H3 D = some (.lst ((fil (fun k => bs.getD k.toNat false) 0 i).map V.int)) ∧ Same H H3) ⟨upd_same, same_new (Same.refl H) hD⟩ (fun i H3 _ h => h.2.seq (SqL.of ha)) ?_ ?_
    · rintro i v H2 H3 hi ⟨e1, s1⟩ ⟨T, u, z, rfl, nT, rfl, e3, e4⟩
      obtain ⟨b, hb, rfl⟩ := bl_at e4
      cases Option.some.inj e3
      have s2 := same_new (o := .tup [V.int (i : Nat), V.bl b]) s1 nT
      have hDT : D ≠ T := ne_of_none e1 nT
      have hib : i < bs.length := (List.getElem?_eq_some_iff.mp hb).1
      have hbs : bs.getD (0 + (i : Int)).toNat false = b := by
        rw [show (0 + (i : Int)).toNat = i by omega, List.getD_eq_getElem?_getD, hb]
        rfl
      refine ⟨T, _, rfl, SqT.of upd_same, rfl, _, _, rfl, _, _, rfl, rfl, ?_⟩
      refine ⟨rfl, _, rfl, _, rfl, ?_⟩
      cases b with
      | false =>
        refine iteF ⟨?_, s2⟩
        rw [fil_neg (by rw [hbs]; exact Bool.false_ne_true), upd_ne hDT]
        exact e1
      | true =>
        refine iteT ⟨_, rfl, _, by rw [upd_ne hDT]; exact e1, small1000 (by rw [List.length_map]; exact Nat.le_trans (fil_len _ _ _) (by omega)), ?_, fun b o e => ?_⟩
        · rw [fil_pos hbs, List.map_append, Int.zero_add]
          exact upd_same
        · rw [upd_ne (ne_of_none e hD)]
          exact s2 b o e
    · rintro H3 ⟨e1, s1⟩
      rw [List.length_map] at e1
      exact k D H3 hD s1 e1
end
end My
set_option Elab.async false
set_option linter.all false
set_option maxRecDepth 100000
set_option maxHeartbeats 8000000
namespace My
open PySem PySem.Spec PyProof.Rows L2
local macro_rules | `(tactic| walk_at "lv") => `(tactic| first | exact Or.inl rfl | exact Or.inr rfl)
theorem vdecB (a b : Bool) : decide (V.bl a = V.bl b) = decide (a = b) := by
  by_cases h : a = b
  · subst h; simp
  · simp [h]
theorem blI_get {bs : List Bool} {i : Int} (h0 : 0 ≤ i) (h1 : i < bs.length) : atI (bs.map V.bl) i = some (.bl (bs.getD i.toNat false)) := by
  obtain ⟨v, e, e2⟩ := atI_of (xs := bs.map V.bl) h0 (by rw [List.length_map]; exact h1)
  obtain ⟨b, hb, rfl⟩ := bl_at e
  rw [e2, List.getD_eq_getElem?_getD, hb]
  rfl
theorem cyc_get {bs : List Bool} {n : Int} {m : Nat} (hm : bs.length = m) (h : 0 < m) : atI (bs.map V.bl) (n % (m : Int)) = some (.bl (cyc bs n)) := by
  have k0 := Int.emod_nonneg n (by omega : (m : Int) ≠ 0)
  have k1 := Int.emod_lt_of_pos n (by omega : (0 : Int) < (m : Int))
  rw [blI_get k0 (by omega)]
  unfold cyc
  rw [hm]
section
variable {P : Program} {w : World} {K : PySem.W.Frag} {mg : Str → Option Value} {base : Heap}
/-! ### _repeats -/
def spRep : Sp := fun vs H Q _ => ∃ (a : Addr) (bs : List Bool) (d : Nat), vs = [.ref a, .int d] ∧ H a = some (.lst (bs.map V.bl)) ∧ 0 < d ∧ d < bs.length ∧ ∀ H' r, Same H H' → r = decide (bs.drop d = bs.take (bs.length - d)) → Q (.bl r) H'
abbrev s_rep : Stmt := top 21
abbrev N_rep : List Str := ["flags", "length"]
theorem sc_rep : FnScope N_rep ["flags", "length"] (defScope s_rep) := ⟨rfl, rfl, rfl, by decide +kernel, rfl, by decide +kernel, by decide +kernel⟩
theorem eqv_lb (a b : List Bool) : PyData.eqv (.list (a.map PyData.bool)) (.list (b.map PyData.bool)) = decide (a = b) := eqv_bls a b
theorem shp_lb (ns : List Bool) : SeqAt.shaped (.list (ns.map PyData.bool)) = true := shp_lst (lay_bls ns).1 (lay_bls ns).2 (by decide)
theorem kp_rep (F : At K mg "_repeats" s_rep) : Keeps CX0 P w K mg base "_repeats" 1 ["flags", "length"] spRep := by
  refine keeps_of F sc_rep (fun _ _ _ _ _ _ us hl => match us, hl with | [_, _], _ => rfl) (fun vs H Q E h => ?_) (fun f cdv A outer s H vs Q E hr h => ?_)
  · obtain ⟨a, bs, d, rfl, _⟩ := h
    rfl
  · obtain ⟨a, bs, d, rfl, ha, h0, h1, k⟩ := h
    refine ⟨_, (pss_one (ps_ret (pe_cmpR (op_eqD hr.units) (pe_slice sl_list (pv 0) (po_some (pv 1)) po_none) (pe_slice sl_list (pv 0) po_none (po_some (pe_un un_neg (pv 1)))) (nomark _)))), ?_⟩
    refine ⟨_, rfl, _, rfl, _, rfl, a, _, rfl, SqL.of ha, fun p hp => ?_⟩
    have s1 := same_new (o := .lst (cutV (bs.map V.bl) (some (d : Int)) none)) (Same.refl H) hp
    refine ⟨_, rfl, _, rfl, _, rfl, _, rfl, a, _, rfl, SqL.of (s1 _ _ ha), fun q hq => ?_⟩
    have s2 := same_new (o := .lst (cutV (bs.map V.bl) none (some (-(d : Int))))) s1 hq
    have e1 : cutV (bs.map V.bl) (some (d : Int)) none = (bs.drop d).map V.bl := by
      unfold cutV
      rw [HT.sIx_nat, HT.sIx_none, List.length_map, Nat.min_eq_left (by omega), ← List.map_drop, List.take_of_length_le (by rw [List.length_map, List.length_drop]; omega)]
    have e2 : cutV (bs.map V.bl) none (some (-(d : Int))) = (bs.take (bs.length - d)).map V.bl := by
      unfold cutV
      rw [HT.sIx_none, List.drop_zero, List.length_map]
      have : HT.sIx bs.length bs.length (some (-(d : Int))) = bs.length - d := by
        show (if -(d : Int) < 0 then _ else _) = _
        rw [if_pos (by omega)]
        omega
      rw [this, List.map_take]
      rfl
    have hpq : p ≠ q := ne_of_none upd_same hq
    rw [e1, e2] at s2 ⊢
    refine ⟨_, _, .lst (SqL.of (by rw [upd_ne hpq]; exact upd_same)) (dp_bls _), .lst (SqL.of upd_same) (dp_bls _), shp_lb _, shp_lb _, ?_⟩
    show Q (.bl (PyData.eqv _ _)) _
    rw [eqv_lb]
    exact k _ _ s2 rfl
/-! ### _least_modulus -/
def spLM : Sp := fun vs H Q _ => ∃ (a b : Addr) (us ds : List Bool), vs = [.ref a, .ref b] ∧ H a = some (.lst (us.map V.bl)) ∧ H b = some (.lst (ds.map V.bl)) ∧ ds.length = us.length ∧ 0 < us.length ∧ us.length ≤ 1000 ∧
  ∀ H' (d : Nat), Same H H' → Least (cyc us) (cyc ds) d → d ≤ us.length → Q (.int d) H'
abbrev s_lm : Stmt := top 20
abbrev N_lm : List Str := ["ups", "downs", "many", "length"]
theorem sc_lm : FnScope N_lm ["ups", "downs"] (defScope s_lm) := ⟨rfl, rfl, rfl, by decide +kernel, rfl, by decide +kernel, by decide +kernel⟩
theorem kp_lm (F : At K mg "_least_modulus" s_lm) (G : Keeps CX0 P w K mg base "_repeats" 1 ["flags", "length"] spRep) (N : Nb mg) : Keeps CX0 P w K mg base "_least_modulus" 2 ["ups", "downs"] spLM := by
  refine keeps_of F sc_lm (fun _ _ _ _ _ _ us hl => match us, hl with | [_, _], _ => rfl) (fun vs H Q E h => ?_) (fun f cdv A outer s H vs Q E hr h => ?_)
  · obtain ⟨a, b, us, ds, rfl, _⟩ := h
    rfl
  · obtain ⟨a, b, us, ds, rfl, ha, hb, hl, h0, h1, k⟩ := h
    refine ⟨_, (pss_cons (ps_set (i := 2) sc_lm.nd rfl (by walk_at "lv") (pe_callB call_len_seq (by rfl) N.len (by decide +kernel) (pa_cons (pv 0) pa_nil)))
        (pss_cons (ps_for PassesOwn.never rfl (pi_range2 (by rfl) N.range (pa_cons pe_int (pa_cons (pv 2) pa_nil))) (pg_name (i := 3) sc_lm.nd rfl (by walk_at "lv")) (pss_one (ps_if (PW.pt (pw_and (pt_cmpR op_eq (pe_op op_mod (pv 2) (pv 3)) pe_int (nomark _)) (pw_and (pt_val (pe_k G hr (by rfl) pass0 (pa_cons (pv 0) (pa_cons (pv 3) pa_nil)))) (pw_and1 (pt_val (pe_k G hr (by rfl) pass0 (pa_cons (pv 1) (pa_cons (pv 3) pa_nil)))))))) (pss_one (ps_ret (pv 3))) pss_nil)))
        (pss_one (ps_ret (pv 2))))), ?_⟩
    have pu : Per (cyc us) us.length := cyc_per
    have pd : Per (cyc ds) us.length := by have := cyc_per (l := ds); rw [hl] at this; exact this
    refine ⟨_, rfl, a, _, rfl, .inl (SqL.of ha), _, rfl, ?_⟩
    refine ⟨_, _, rfl, ⟨by decide, by decide, by rw [List.length_map]; omega, by rw [List.length_map]; omega⟩, ?_⟩
    rw [List.length_map, show ((us.length : Int) - 1).toNat = us.length - 1 by omega]
    refine for_range (lo := 1) (n := us.length - 1) (fun i σ H2 => ∃ x : Option V, σ = [some (.ref a), some (.ref b), some (.int us.length), x] ∧ Same H H2 ∧ ∀ e, 0 < e → e ≤ i → us.length % e = 0 → Per (cyc us) e → Per (cyc ds) e → False) ⟨_, rfl, Same.refl H, fun e h1 h2 => by omega⟩ ?_ ?_
    · rintro i σ H2 hi ⟨x, rfl, s2, no⟩
      have e1 : (1 : Int) + (i : Nat) = ((i + 1 : Nat) : Int) := by omega
      rw [e1]
      have nx : ∀ H3, Same H H3 → (us.length % (i + 1) = 0 → Per (cyc us) (i + 1) → Per (cyc ds) (i + 1) → False) → ∃ y : Option V, [some (V.ref a), some (V.ref b), some (V.int us.length), some (V.int ((i + 1 : Nat) : Int))] = [some (.ref a), some (.ref b), some (.int us.length), y] ∧ Same H H3 ∧ ∀ e, 0 < e → e ≤ i + 1 → us.length % e = 0 → Per (cyc us) e → Per (cyc ds) e → False := fun H3 s3 hn => ⟨_, rfl, s3, fun e h2 h3 h4 h5 h6 => by
        rcases Nat.lt_or_ge e (i + 1) with q | q
        · exact no e h2 (by omega) h4 h5 h6
        · have : e = i + 1 := by omega
          subst this
          exact hn h4 h5 h6⟩
      refine ⟨_, rfl, _, rfl, _, _, rfl, rfl, (by omega : (0 : Int) < ((i + 1 : Nat) : Int)), rfl, _, rfl, ?_⟩
      rw [vdec]
      refine ite2 (fun c => ?_) (fun c => ?_)
      · have c1 : us.length % (i + 1) = 0 := by
          have := of_decide_eq_true c
          omega
        refine ⟨_, rfl, _, rfl, a, us, i + 1, rfl, s2 _ _ ha, by omega, by omega, fun H3 r s3 er => ⟨_, rfl, ?_⟩⟩
        have s4 := s2.trans s3
        cases r with
        | false =>
          refine iteF (nx _ s4 fun _ pu' _ => ?_)
          exact of_decide_eq_false er.symm ((cut_shift (by omega)).mpr (per_shift pu'))
        | true =>
          refine iteT ⟨_, rfl, _, rfl, b, ds, i + 1, rfl, s4 _ _ hb, by omega, by omega, fun H5 r2 s5 er2 => ⟨_, rfl, ?_⟩⟩
          have s6 := s4.trans s5
          cases r2 with
          | false =>
            refine iteF (nx _ s6 fun _ _ pd' => ?_)
            exact of_decide_eq_false er2.symm ((cut_shift (by omega)).mpr (per_shift pd'))
          | true =>
            refine iteT ⟨_, rfl, ?_⟩
            refine k H5 (i + 1) s6 (least_by h0 pu pd (by omega) (shift_per (by omega) c1 ((cut_shift (by omega)).mp (of_decide_eq_true er.symm))) (shift_per (by omega) (by rw [hl]; exact c1) ((cut_shift (by omega)).mp (of_decide_eq_true er2.symm))) fun e h2 h3 h4 h5 h6 => no e h2 (by omega) h4 h5 h6) (by omega)
      · exact nx _ s2 fun z => absurd (by rw [decide_eq_true]; omega) c
    · rintro σ H2 ⟨x, rfl, s2, no⟩
      refine ⟨_, rfl, ?_⟩
      exact k H2 us.length s2 (least_by h0 pu pd h0 pu pd fun e h2 h3 h4 h5 h6 => no e h2 (by omega) h4 h5 h6) (Nat.le_refl _)
end
end My
set_option Elab.async false
set_option linter.all false
set_option maxRecDepth 100000
set_option maxHeartbeats 8000000
namespace My
open PySem PySem.Spec PyProof.Rows L2
local macro_rules | `(tactic| walk_at "lv") => `(tactic| first | exact Or.inl rfl | exact Or.inr rfl)
section
variable {P : Program} {w : World} {K : PySem.W.Frag} {mg : Str → Option Value} {base : Heap}
/-- a telling's three lists -/
structure TlAt (H : Hp) (T : Tl) (c u d : Addr) : Prop where
  cs : H c = some (.lst (T.cs.map V.bl))
  us : H u = some (.lst (T.us.map V.bl))
  ds : H d = some (.lst (T.ds.map V.bl))
theorem TlAt.same {H H' : Hp} {T : Tl} {c u d : Addr} (s : Same H H') (h : TlAt H T c u d) : TlAt H' T c u d := ⟨s _ _ h.cs, s _ _ h.us, s _ _ h.ds⟩
structure Tl.Near (T : Tl) : Prop where
  ok : T.Ok
  m : T.us.length ≤ 1000
  c : T.cs.length ≤ 1000
  lo : -10 ^ 31 ≤ T.lo ∧ T.lo ≤ 10 ^ 31
/-! ### _greatest_wrong -/
def spGW : Sp := fun vs H Q _ => ∃ (T : Tl) (c u d : Addr), vs = [.int T.lo, .ref c, .ref u, .ref d] ∧ TlAt H T c u d ∧ T.Near ∧ ((∀ n, T.has n = T.U n) → Q .non H) ∧ (∀ v, T.has v ≠ T.U v → (∀ n, v < n → T.has n = T.U n) → v ≤ T.hi → Q (.int v) H)
abbrev s_gw : Stmt := top 22
abbrev N_gw : List Str := ["low", "core", "ups", "downs", "many", "at", "number"]
theorem sc_gw : FnScope N_gw ["low", "core", "ups", "downs"] (defScope s_gw) := ⟨rfl, rfl, rfl, by decide +kernel, rfl, by decide +kernel, by decide +kernel⟩
theorem kp_gw (F : At K mg "_greatest_wrong" s_gw) (N : Nb mg) : Keeps CX0 P w K mg base "_greatest_wrong" 1 ["low", "core", "ups", "downs"] spGW := by
  refine keeps_of F sc_gw (fun _ _ _ _ _ _ us hl => match us, hl with | [_, _, _, _], _ => rfl) (fun vs H Q E h => ?_) (fun f cdv A outer s H vs Q E hr h => ?_)
  · obtain ⟨T, c, u, d, rfl, _⟩ := h
    rfl
  · obtain ⟨T, c, u, d, rfl, a, near, kn, ks⟩ := h
    have ok := near.ok
    have hm := ok.pos
    have hm1 := near.m
    have hc1 := near.c
    have hlo := near.lo
    have hhi : T.hi = T.lo + T.cs.length - 1 := rfl
    refine ⟨_, (pss_cons (ps_set (i := 4) sc_gw.nd rfl (by walk_at "lv") (pe_callB call_len_seq (by rfl) N.len (by decide +kernel) (pa_cons (pv 2) pa_nil)))
        (pss_cons (ps_for PassesOwn.never rfl (pi_range3 (by rfl) N.range (pa_cons (pe_op op_sub (pe_callB call_len_seq (by rfl) N.len (by decide +kernel) (pa_cons (pv 1) pa_nil)) pe_int) (pa_cons (pe_un un_neg pe_int) (pa_cons (pe_un un_neg pe_int) pa_nil)))) (pg_name (i := 5) sc_gw.nd rfl (by walk_at "lv")) (pss_one (ps_if (pt_cmpR op_ne (pe_ix ix_list (pv 1) (pv 5) (fun _ _ => rfl)) (pe_ix ix_list (pv 2) (pe_op op_mod (pe_op op_add (pv 0) (pv 5)) (pv 4)) (fun _ _ => rfl)) (nomark _)) (pss_one (ps_ret (pe_op op_add (pv 0) (pv 5)))) pss_nil)))
        (pss_cons (ps_for PassesOwn.never rfl (pi_rangeD (by rfl) N.range (pa_cons (pe_op op_sub (pv 0) pe_int) (pa_cons (pe_op op_sub (pe_op op_sub (pv 0) pe_int) (pv 4)) (pa_cons (pe_un un_neg pe_int) pa_nil)))) (pg_name (i := 6) sc_gw.nd rfl (by walk_at "lv")) (pss_one (ps_if (pt_cmpR op_ne (pe_ix ix_list (pv 3) (pe_op op_mod (pv 6) (pv 4)) (fun _ _ => rfl)) (pe_ix ix_list (pv 2) (pe_op op_mod (pv 6) (pv 4)) (fun _ _ => rfl)) (nomark _)) (pss_one (ps_ret (pv 6))) pss_nil)))
        (pss_one (ps_ret pe_non))))), ?_⟩
    refine ⟨_, rfl, u, _, rfl, .inl (SqL.of a.us), ?_⟩
    rw [List.length_map]
    refine ⟨_, rfl, c, _, rfl, .inl (SqL.of a.cs), _, _, rfl, rfl, _, rfl, _, rfl, _, _, _, _, rfl, RgC.neg (by rw [List.length_map]; omega) (by rw [List.length_map]; omega) (by decide) (by decide), ?_⟩
    rw [List.length_map, show ((T.cs.length : Int) - 1 - -1).toNat = T.cs.length by omega]
    refine for_rangeC (lo := (T.cs.length : Int) - 1) (c := -1) (n := T.cs.length) (fun i σ H2 => ∃ x : Option V, σ = [some (.int T.lo), some (.ref c), some (.ref u), some (.ref d), some (.int T.us.length), x, none] ∧ H2 = H ∧ ∀ n, T.lo + T.cs.length - i ≤ n → T.has n = T.U n) ⟨_, rfl, rfl, fun n hn => Tl.above (by omega)⟩ ?_ ?_
    · rintro i σ H2 hi ⟨x, rfl, rfl, inv⟩
      have e1 : (T.cs.length : Int) - 1 + (i : Nat) * -1 = ((T.cs.length - 1 - i : Nat) : Int) := by omega
      rw [e1]
      have hk : T.cs.length - 1 - i < T.cs.length := by omega
      have g1 := blI_get (bs := T.cs) (i := ((T.cs.length - 1 - i : Nat) : Int)) (by omega) (by omega)
      refine ⟨_, rfl, _, rfl, c, _, _, _, rfl, rfl, SqL.of a.cs, g1, _, rfl, _, rfl, _, rfl, _, _, rfl, rfl, _, rfl, _, _, rfl, rfl, (by omega : (0 : Int) < (T.us.length : Int)), u, _, _, _, rfl, rfl, SqL.of a.us, cyc_get rfl hm, rfl, _, rfl, ?_⟩
      show if (!decide (V.bl _ = V.bl _)) = true then _ else _
      rw [vdecB]
      have cn : T.has (T.lo + ((T.cs.length - 1 - i : Nat) : Int)) = T.cs.getD (T.cs.length - 1 - i) false := by
        rw [Tl.core (by omega) (by omega)]
        congr 1
        omega
      rw [show ((T.cs.length - 1 - i : Nat) : Int).toNat = T.cs.length - 1 - i by omega, ← cn]
      by_cases q : T.has (T.lo + ((T.cs.length - 1 - i : Nat) : Int)) = T.U (T.lo + ((T.cs.length - 1 - i : Nat) : Int))
      · rw [show decide (T.has (T.lo + ((T.cs.length - 1 - i : Nat) : Int)) = cyc T.us (T.lo + ((T.cs.length - 1 - i : Nat) : Int))) = true from decide_eq_true q]
        refine iteF ⟨_, rfl, rfl, fun n hn => ?_⟩
        rcases Int.lt_or_le (T.lo + ((T.cs.length - 1 - i : Nat) : Int)) n with z | z
        · exact inv n (by omega)
        · have : n = T.lo + ((T.cs.length - 1 - i : Nat) : Int) := by omega
          rw [this]
          exact q
      · rw [show decide (T.has (T.lo + ((T.cs.length - 1 - i : Nat) : Int)) = cyc T.us (T.lo + ((T.cs.length - 1 - i : Nat) : Int))) = false from decide_eq_false q]
        refine iteT ⟨_, rfl, _, rfl, _, _, rfl, rfl, ?_⟩
        exact ks _ q (fun n hn => inv n (by omega)) (by omega)
    · rintro σ H2 ⟨x, rfl, rfl, inv⟩
      refine ⟨_, rfl, _, _, rfl, rfl, _, rfl, _, _, rfl, rfl, _, rfl, _, _, rfl, rfl, _, rfl, _, _, rfl, ?_⟩
      rw [show (T.lo - 1 - (T.lo - 1 - (T.us.length : Int))).toNat = T.us.length by omega]
      refine for_rangeC (lo := T.lo - 1) (c := -1) (n := T.us.length) (fun i σ H3 => ∃ y : Option V, σ = [some (.int T.lo), some (.ref c), some (.ref u), some (.ref d), some (.int T.us.length), x, y] ∧ H3 = H2 ∧ ∀ n, T.lo - i ≤ n → T.has n = T.U n) ⟨_, rfl, rfl, fun n hn => inv n (by omega)⟩ ?_ ?_
      · rintro i σ H3 hi ⟨y, rfl, rfl, inv2⟩
        have e1 : T.lo - 1 + (i : Nat) * -1 = T.lo - 1 - (i : Int) := by omega
        rw [e1]
        refine ⟨_, rfl, _, rfl, _, rfl, _, _, rfl, rfl, (by omega : (0 : Int) < (T.us.length : Int)), d, _, _, _, rfl, rfl, SqL.of a.ds, cyc_get (n := T.lo - 1 - (i : Int)) ok.len hm, _, rfl, _, rfl, _, rfl, _, _, rfl, rfl, (by omega : (0 : Int) < (T.us.length : Int)), u, _, _, _, rfl, rfl, SqL.of a.us, cyc_get (n := T.lo - 1 - (i : Int)) rfl hm, rfl, _, rfl, ?_⟩
        show if (!decide (V.bl _ = V.bl _)) = true then _ else _
        rw [vdecB]
        have cn : T.has (T.lo - 1 - (i : Int)) = cyc T.ds (T.lo - 1 - (i : Int)) := Tl.below (by omega)
        rw [← cn]
        by_cases q : T.has (T.lo - 1 - (i : Int)) = cyc T.us (T.lo - 1 - (i : Int))
        · rw [decide_eq_true q]
          refine iteF ⟨_, rfl, rfl, fun n hn => ?_⟩
          rcases Int.lt_or_le (T.lo - 1 - (i : Int)) n with z | z
          · exact inv2 n (by omega)
          · have : n = T.lo - 1 - (i : Int) := by omega
            rw [this]
            exact q
        · rw [decide_eq_false q]
          refine iteT ⟨_, rfl, ?_⟩
          exact ks _ q (fun n hn => inv2 n (by omega)) (by omega)
      · rintro σ H3 ⟨y, rfl, rfl, inv2⟩
        exact kn fun n => by
          rcases Int.lt_or_le n T.lo with z | z
          · exact Tl.all_above ok (Int.le_refl _) (fun n h1 h2 => inv2 n (by unfold Tl.m at h1; omega)) n z
          · exact inv2 n (by omega)
end
end My
set_option Elab.async false
set_option linter.all false
set_option maxRecDepth 100000
set_option maxHeartbeats 8000000
namespace My
open PySem PySem.Spec PyProof.Rows L2
local macro_rules | `(tactic| walk_at "lv") => `(tactic| first | exact Or.inl rfl | exact Or.inr rfl)
section
variable {P : Program} {w : World} {K : PySem.W.Frag} {mg : Str → Option Value} {base : Heap}
/-! ### _least_wrong -/
def spLW : Sp := fun vs H Q _ => ∃ (T : Tl) (c u d : Addr), vs = [.int T.lo, .ref c, .ref u, .ref d] ∧ TlAt H T c u d ∧ T.Near ∧ (∃ n, T.has n ≠ T.U n) ∧ (∀ v H', Same H H' → T.has v ≠ T.D v → (∀ n, n < v → T.has n = T.D n) → T.lo ≤ v → Q (.int v) H')
abbrev s_lw : Stmt := top 23
abbrev N_lw : List Str := ["low", "core", "ups", "downs", "many", "at", "told", "number"]
theorem sc_lw : FnScope N_lw ["low", "core", "ups", "downs"] (defScope s_lw) := ⟨rfl, rfl, rfl, by decide +kernel, rfl, by decide +kernel, by decide +kernel⟩
theorem kp_lw (F : At K mg "_least_wrong" s_lw) (N : Nb mg) : Keeps CX0 P w K mg base "_least_wrong" 1 ["low", "core", "ups", "downs"] spLW := by
  refine keeps_of F sc_lw (fun _ _ _ _ _ _ us hl => match us, hl with | [_, _, _, _], _ => rfl) (fun vs H Q E h => ?_) (fun f cdv A outer s H vs Q E hr h => ?_)
  · obtain ⟨T, c, u, d, rfl, _⟩ := h
    rfl
  · obtain ⟨T, c, u, d, rfl, a, near, ex, ks⟩ := h
    have ok := near.ok
    have hm := ok.pos
    have hm1 := near.m
    have hc1 := near.c
    have hlo := near.lo
    have hhi : T.hi = T.lo + T.cs.length - 1 := rfl
    refine ⟨_, (pss_cons (ps_set (i := 4) sc_lw.nd rfl (by walk_at "lv") (pe_callB call_len_seq (by rfl) N.len (by decide +kernel) (pa_cons (pv 3) pa_nil)))
        (pss_cons (ps_for PassesOwn.never rfl (pi_enum (by rfl) N.enumerate (pa_cons (pv 1) pa_nil)) (pg_tup (by rfl) (pgs_cons (pg_name (i := 5) sc_lw.nd rfl (by walk_at "lv")) (pgs_cons (pg_name (i := 6) sc_lw.nd rfl (by walk_at "lv")) pgs_nil))) (pss_one (ps_if (pt_cmpR op_ne (pv 6) (pe_ix ix_list (pv 3) (pe_op op_mod (pe_op op_add (pv 0) (pv 5)) (pv 4)) (fun _ _ => rfl)) (nomark _)) (pss_one (ps_ret (pe_op op_add (pv 0) (pv 5)))) pss_nil)))
        (pss_cons (ps_set (i := 7) sc_lw.nd rfl (by walk_at "lv") (pe_op op_add (pv 0) (pe_callB call_len_seq (by rfl) N.len (by decide +kernel) (pa_cons (pv 1) pa_nil))))
        (pss_cons (ps_while PassesOwn.never (pt_cmpR op_eq (pe_ix ix_list (pv 2) (pe_op op_mod (pv 7) (pv 4)) (fun _ _ => rfl)) (pe_ix ix_list (pv 3) (pe_op op_mod (pv 7) (pv 4)) (fun _ _ => rfl)) (nomark _)) (pss_one (ps_aug (i := 7) sc_lw.nd rfl (by walk_at "lv") pe_int ip_add)))
        (pss_one (ps_ret (pv 7))))))), ?_⟩
    refine ⟨_, rfl, d, _, rfl, .inl (SqL.of a.ds), ?_⟩
    rw [List.length_map, ok.len]
    refine ⟨_, rfl, c, _, rfl, SqL.of a.cs, for_it walk_enum (fun i σ H2 => ∃ x y : Option V, σ = [some (.int T.lo), some (.ref c), some (.ref u), some (.ref d), some (.int T.us.length), x, y, none] ∧ Same H H2 ∧ ∀ n, n < T.lo + i → T.has n = T.D n) ⟨_, _, rfl, Same.refl H, fun n hn => Tl.below (by omega)⟩ (fun i σ H2 _ ⟨_, _, _, s2, _⟩ => s2.seq (SqL.of a.cs)) ?_ ?_⟩
    · rintro i v σ H2 H3 hi ⟨x, y, rfl, s2, inv⟩ ⟨W, p, z, rfl, nW, rfl, e3, e4⟩
      obtain ⟨b, hb, rfl⟩ := bl_at e4
      cases Option.some.inj e3
      have s3 := same_new (o := .tup [V.int (i : Nat), V.bl b]) s2 nW
      have hic : i < T.cs.length := (List.getElem?_eq_some_iff.mp hb).1
      have cn : T.has (T.lo + (i : Int)) = b := by
        rw [Tl.core (by omega) (by omega), show (T.lo + (i : Int) - T.lo).toNat = i by omega, List.getD_eq_getElem?_getD, hb]
        rfl
      refine ⟨W, _, rfl, SqT.of upd_same, rfl, _, _, rfl, _, _, rfl, rfl, ?_⟩
      refine ⟨_, rfl, _, rfl, _, rfl, _, rfl, _, _, rfl, rfl, _, rfl, _, _, rfl, rfl, (by omega : (0 : Int) < (T.us.length : Int)), d, _, _, _, rfl, rfl, SqL.of (s3 _ _ a.ds), cyc_get (n := T.lo + (i : Int)) ok.len hm, rfl, _, rfl, ?_⟩
      show if (!decide (V.bl _ = V.bl _)) = true then _ else _
      rw [vdecB]
      by_cases q : b = cyc T.ds (T.lo + (i : Int))
      · rw [decide_eq_true q]
        refine iteF ⟨_, _, rfl, s3, fun n hn => ?_⟩
        rcases Int.lt_or_le n (T.lo + (i : Int)) with z | z
        · exact inv n z
        · have : n = T.lo + (i : Int) := by omega
          rw [this, cn]
          exact q
      · rw [decide_eq_false q]
        refine iteT ⟨_, rfl, _, rfl, _, _, rfl, rfl, ?_⟩
        exact ks _ _ s3 (by rw [cn]; exact q) inv (by omega)
    · rintro σ H2 ⟨x, y, rfl, s2, inv⟩
      rw [List.length_map] at inv
      obtain ⟨W, w1, w2, w3⟩ := Tl.parts ok ex fun n h1 h2 => inv n (by omega)
      refine ⟨_, rfl, _, rfl, c, _, rfl, .inl (SqL.of (s2 _ _ a.cs)), _, _, rfl, rfl, ?_⟩
      rw [List.length_map]
      refine while_by (fun σ H3 => ∃ n : Int, σ = [some (.int T.lo), some (.ref c), some (.ref u), some (.ref d), some (.int T.us.length), x, y, some (.int n)] ∧ H3 = H2 ∧ T.hi < n ∧ n ≤ W ∧ ∀ k, T.hi < k → k < n → T.U k = T.D k) (fun σ H3 => match σ[7]? with | some (some (V.int n)) => (W - n).toNat | _ => 0) ⟨T.lo + T.cs.length, rfl, rfl, by omega, by omega, fun k h1 h2 => by omega⟩ ?_ ?_
      · rintro σ H3 ⟨n, rfl, rfl, n1, n2, n3⟩
        refine ⟨_, rfl, _, rfl, _, rfl, _, _, rfl, rfl, (by omega : (0 : Int) < (T.us.length : Int)), u, _, _, _, rfl, rfl, SqL.of (s2 _ _ a.us), cyc_get (n := n) rfl hm, _, rfl, _, rfl, _, rfl, _, _, rfl, rfl, (by omega : (0 : Int) < (T.us.length : Int)), d, _, _, _, rfl, rfl, SqL.of (s2 _ _ a.ds), cyc_get (n := n) ok.len hm, rfl, _, rfl, ?_⟩
        rw [vdecB]
        by_cases q : cyc T.us n = cyc T.ds n
        · rw [decide_eq_true q]
          have nW : n ≠ W := fun z => w3 (by rw [← z]; exact q)
          refine iteT ⟨_, rfl, _, _, rfl, rfl, ?_⟩
          refine ⟨⟨n + 1, rfl, rfl, by omega, by omega, fun k h1 h2 => ?_⟩, (by show (W - (n + 1)).toNat < (W - n).toNat; omega)⟩
          rcases Int.lt_or_le k n with z | z
          · exact n3 k h1 z
          · have : k = n := by omega
            rw [this]
            exact q
        · rw [decide_eq_false q]
          refine iteF ⟨_, rfl, ?_⟩
          refine ks n _ s2 (by rw [Tl.above n1]; exact q) (fun k hk => ?_) (by omega)
          rcases Int.lt_or_le T.hi k with z | z
          · rw [Tl.above z]
            exact n3 k z hk
          · exact inv k (by omega)
      · rintro σ H3 Q1 Q2 hq ⟨x1, h1, x2, h2, x3, h3, i, j, e1, e2, pos, p, xs, ix, v, e3, e4, sq, at_, y1, g1, y2, g2, y3, g3, i', j', f1, f2, pos', p', xs', ix', v', f3, f4, sq', at', sc, k, ek, q⟩
        exact ⟨x1, h1, x2, h2, x3, h3, i, j, e1, e2, pos, p, xs, ix, v, e3, e4, sq, at_, y1, g1, y2, g2, y3, g3, i', j', f1, f2, pos', p', xs', ix', v', f3, f4, sq', at', sc, k, ek, hq _ _ q⟩
end
end My
set_option Elab.async false
set_option linter.all false
set_option maxRecDepth 100000
set_option maxHeartbeats 8000000
namespace My
open PySem PySem.Spec PyProof.Rows L2
local macro_rules | `(tactic| walk_at "lv") => `(tactic| first | exact Or.inl rfl | exact Or.inr rfl)
/-- the lists of numbers that tell T -/
structure Told (T : Tl) (ins us ds : List Int) : Prop where
  i : ∀ n ∈ ins, T.lo ≤ n ∧ n ≤ T.hi
  ic : ∀ k : Nat, k < T.cs.length → T.cs.getD k false = decide (T.lo + (k : Int) ∈ ins)
  u : ∀ n ∈ us, 0 ≤ n ∧ n ≤ (T.us.length : Int) - 1
  uc : ∀ k : Nat, k < T.us.length → T.us.getD k false = decide ((0 : Int) + (k : Int) ∈ us)
  d : ∀ n ∈ ds, 0 ≤ n ∧ n ≤ (T.us.length : Int) - 1
  dc : ∀ k : Nat, k < T.us.length → T.ds.getD k false = decide ((0 : Int) + (k : Int) ∈ ds)
theorem getD_ext {as bs : List Bool} (hl : as.length = bs.length) (h : ∀ k, k < as.length → as.getD k false = bs.getD k false) : as = bs := by
  refine List.ext_getElem hl fun k h1 h2 => ?_
  have := h k h1
  rw [List.getD_eq_getElem?_getD, List.getD_eq_getElem?_getD, List.getElem?_eq_getElem h1, List.getElem?_eq_getElem h2] at this
  exact this
def insOf (T : Tl) (lo hi : Int) : List Int := fil T.has lo (hi + 1 - lo).toNat
def resOf (f : Int → Bool) (d : Nat) : List Int := fil f 0 d
theorem res_take {l : List Bool} {d : Nat} (hd : d ≤ l.length) : res (l.take d) = resOf (cyc l) d := by
  have hl : (l.take d).length = d := by rw [List.length_take]; omega
  unfold res resOf
  rw [hl]
  refine fil_cong fun x h1 h2 => ?_
  have e : x = ((x.toNat : Nat) : Int) := by omega
  have q := cyc_lt (l := l) (k := x.toNat) (by omega)
  rw [← e] at q
  rw [q, List.getD_eq_getElem?_getD, List.getD_eq_getElem?_getD, List.getElem?_take, if_pos (by omega)]
/-- the made lot, or the error -/
def LotEnd (K : PySem.W.Frag) (T : Tl) (H : Hp) (Q : VK) (E : XK) : Prop :=
  (∀ p lo hi d H', IsForm T.has T.U T.D lo hi d → -20000 ≤ lo → hi ≤ 20000 → Same H H' → LotAt (He.ga K "Lot") H' p lo hi (insOf T lo hi) d (resOf T.U d) (resOf T.D d) → Q (.ref p) H') ∧
  (∀ lo hi d dd H', IsForm T.has T.U T.D lo hi d → (lo < -20000 ∨ 20000 < hi) → Same H H' → H' dd = some (.xd [("most", .int 20000)]) → E (.ref (He.ga K "TooLong")) (some dd) H')
theorem LotEnd.same {K : PySem.W.Frag} {T : Tl} {H H' : Hp} {Q : VK} {E : XK} (s : Same H H') (h : LotEnd K T H Q E) : LotEnd K T H' Q E :=
  ⟨fun p lo hi d H2 f a b s2 l => h.1 p lo hi d H2 f a b (s.trans s2) l, fun lo hi d dd H2 f a s2 e => h.2 lo hi d dd H2 f a (s.trans s2) e⟩
def spLotOf (K : PySem.W.Frag) : Sp := fun vs H Q E => ∃ (T : Tl) (a b c : Addr) (ins us ds : List Int), vs = [.int T.lo, .int T.hi, .ref a, .int T.us.length, .ref b, .ref c] ∧ T.Near ∧ T.cs.length < 1000 ∧ Told T ins us ds ∧ SqA H a (ins.map V.int) ∧ SqA H b (us.map V.int) ∧ SqA H c (ds.map V.int) ∧ LotEnd K T H Q E
abbrev s_lotof : Stmt := top 17
abbrev N_lotof : List Str := ["low", "high", "inside", "modulus", "ups", "downs", "ups_flags", "downs_flags", "core", "top", "bottom", "number"]
theorem sc_lotof : FnScope N_lotof ["low", "high", "inside", "modulus", "ups", "downs"] (defScope s_lotof) := ⟨rfl, rfl, rfl, by decide +kernel, rfl, by decide +kernel, by decide +kernel⟩
/-- what the walks ask of the class Lot and of TooLong -/
structure Lots (P : Program) (w : World) (K : PySem.W.Frag) (mg : Str → Option Value) (base : Heap) : Prop where
  t : LotTxt K mg (He.ga K "Lot")
  m : Mk K (He.ga K "Lot") (He.ma K (He.ga K "Lot") "__init__")
  i : KeepsM P w K mg base (He.ma K (He.ga K "Lot") "__init__") 1 ["self", "low", "high", "inside", "modulus", "ups", "downs"] (spLotI (He.ga K "Lot"))
  xt : ExF K mg "TooLong" "BookError" ["most"]
  xi : KeepsI P w K mg base "TooLong" ["most"]
theorem pmk_tl {X : Cx} {k : Nat} {e : Expr} {es : List Expr} {ta : TA} {p pos : Pos} (S : Lots X.prog X.w X.K X.mg X.base) (hr : Room (k + 2) X.A) (hg : Gl X "TooLong") (ha : PA X (e :: es) ta)
    (dbg : (("TooLong" : Str) == ("__debug__" : Str)) = false := by decide) (hst : starEach (e :: es) X.env = (false, eval e X.env) :: starEach es X.env := by rfl) (hpl : (backTo pos (starEach es X.env)).any (·.1) = false := by rfl) :
    PMk X (.Call (.Name "TooLong" p) (e :: es) [] pos) (tMkO (He.ga X.K "TooLong") (spIni (He.ga X.K "TooLong") ["most"]) [] ta) := by
  obtain ⟨fd, F, b⟩ := S.xi
  obtain ⟨iC, tI⟩ := S.xt.ini (fun z => nomatch z)
  exact pmk_oex S.xt.ox iC tI F (hr.mono (by omega)) b .nil pass0 hg S.xt.g ha dbg hst hpl
/-- the reading of the making, with the way out -/
theorem mko_ok {K : PySem.W.Frag} {C : Addr} {fs : List Str} {ta : TA} {σ : L2.St} {H : Hp} {W : XK} {ys : List V} (ht : ∀ Q : List V → Hp → Prop, Q ys H → ta σ H Q) (hl : ys.length = fs.length) (h9 : ys.length ≤ 1000)
    (hW : ∀ d H', Same H H' → H' d = some (.xd (fs.zip ys).reverse) → W (.ref C) (some d) H') : tMkO C (spIni C fs) [] ta σ H W := by
  refine ht _ ⟨h9, fun a ha => ⟨a, ys, (by rw [List.append_nil]), hl, upd_same, fun d H' hd hne e1 e2 k1 => ⟨rfl, d, _, e1, e2, ?_, ?_⟩⟩⟩
  · rw [upd_ne hne] at hd
    exact hd
  · refine hW d _ (fun b o z => ?_) upd_same
    have nba : b ≠ a := ne_of_none z ha
    have nbd : b ≠ d := fun q => by
      rw [upd_ne hne] at hd
      rw [q, hd] at z
      cases z
    rw [upd_ne nbd, del_ne nba]
    exact k1 b o nba (by rw [upd_ne nba]; exact z)
section
variable {P : Program} {w : World} {K : PySem.W.Frag} {mg : Str → Option Value} {base : Heap}
theorem kp_lotof (F : At K mg "_lot_of" s_lotof) (N : Nb mg) (S : Lots P w K mg base) (mF : ∃ t, mg "FARTHEST" = some (.int 20000 t)) (Gf : Keeps CX0 P w K mg base "_flags" 1 ["low", "high", "numbers"] spFlags) (Gm : Keeps CX0 P w K mg base "_least_modulus" 2 ["ups", "downs"] spLM)
    (Gg : Keeps CX0 P w K mg base "_greatest_wrong" 1 ["low", "core", "ups", "downs"] spGW) (Gl_ : Keeps CX0 P w K mg base "_least_wrong" 1 ["low", "core", "ups", "downs"] spLW) (Gp : Keeps CX0 P w K mg base "_places_of" 1 ["flags"] spPlaces) :
    Keeps (CX P w) P w K mg base "_lot_of" 3 ["low", "high", "inside", "modulus", "ups", "downs"] (spLotOf K) := by
  refine keeps_ofX F sc_lotof (fun _ _ _ _ _ _ us hl => match us, hl with | [_, _, _, _, _, _], _ => rfl) (fun vs H Q E h => ?_) (fun f cdv A outer s H vs Q E hr h => ?_)
  · obtain ⟨T, a, b, c, ins, us, ds, rfl, _⟩ := h
    rfl
  · obtain ⟨T, a, b, c, ins, us, ds, rfl, near, hc9, told, ha, hb, hc, k⟩ := h
    obtain ⟨fdI, FI, bI⟩ := S.i
    obtain ⟨tF, mF⟩ := mF
    have hu := hu_of hr
    have hm := near.ok.pos
    have hm1 := near.m
    have hlo := near.lo
    have hhi : T.hi = T.lo + T.cs.length - 1 := rfl
    obtain ⟨tl, dtl, tail⟩ : ∃ tl, PSs (cxOf (CX P w) P w K mg base N_lotof "_lot_of" (defScope s_lotof) f cdv A outer s H E) ((defBody s_lotof).drop 8) tl ∧ ∀ (H1 : Hp) (lo hi : Int) (d : Nat) (p3 q1 q2 : Addr), IsForm T.has T.U T.D lo hi d → d ≤ T.us.length → -(3 * 10 ^ 31) ≤ lo → lo ≤ 3 * 10 ^ 31 → -(3 * 10 ^ 31) ≤ hi → hi ≤ 3 * 10 ^ 31 → hi + 1 - lo < 1000 →
        (∀ n, lo ≤ n → n ≤ hi → T.lo ≤ n ∧ n ≤ T.hi) → Same H H1 → H1 p3 = some (.lst (T.cs.map V.bl)) → H1 q1 = some (.lst ((T.us.take d).map V.bl)) → H1 q2 = some (.lst ((T.ds.take d).map V.bl)) →
        tl { nx := fun _ H' => Q .non H', rt := Q } [some (V.int T.lo), some (V.int T.hi), some (V.ref a), some (V.int d), some (V.ref b), some (V.ref c), some (V.ref q1), some (V.ref q2), some (V.ref p3), some (V.int hi), some (V.int lo), none] H1 := by
      refine ⟨_, (pss_cons (ps_if (PW.pt (pw_or (pt_cmpR op_lt (pv 10) (pe_un un_neg (pe_glob (v := .int 20000) (by rfl) mF ⟨_, rfl⟩)) (nomark _)) (pw_or1 (pt_cmpR op_gt (pv 9) (pe_glob (v := .int 20000) (by rfl) mF ⟨_, rfl⟩) (nomark _))))) (pss_one (ps_raise rfl (takes_of rfl rfl rfl rfl) (by exact pmk_tl S hr (by rfl) (pa_cons (pe_glob (v := .int 20000) (by rfl) mF ⟨_, rfl⟩) pa_nil)))) pss_nil)
        (pss_cons (ps_setLc (i := 2) (own := [("number", 11)]) (g := gName 11) rfl sc_lotof.nd rfl rfl (sw_true rfl rfl rfl (by decide +kernel)) (pi_range2 (by rfl) N.range (pa_cons (pv 10) (pa_cons (pe_op op_add (pv 9) pe_int) pa_nil))) (blkOk_by (N := N_lotof) (sc := defScope s_lotof) (by decide +kernel)) (fun _ _ _ _ _ => (pg_name (i := 11) sc_lotof.nd rfl (by walk_at "lv"))) (fun _ _ _ _ _ => (pts_one (pt_val (pe_ix ix_list (r := rIxL K) (pv 8) (pe_op op_sub (pv 11) (pv 0)) (fun _ _ => rfl))))) (fun _ _ _ _ _ => (pv 11)))
        (pss_one (ps_ret (pe_make S.m FI (hr.mono (by decide)) (by rfl) S.t.mgC bI .nil pass0 (pa_cons (pv 10) (pa_cons (pv 9) (pa_cons (pv 2) (pa_cons (pv 3) (pa_cons (pe_k Gp (hr.mono (by decide)) (by rfl) pass0 (pa_cons (pv 6) pa_nil)) (pa_cons (pe_k Gp (hr.mono (by decide)) (by rfl) pass0 (pa_cons (pv 7) pa_nil)) pa_nil))))))))))), ?_⟩
      intro H1 lo hi d p3 q1 q2 fm hd b1 b2 b3 b4 b5 sub s1 e3 e1 e2
      refine ⟨_, rfl, _, rfl, _, _, rfl, rfl, _, rfl, ?_⟩
      have boom : (lo < -20000 ∨ 20000 < hi) → tMkO (He.ga K "TooLong") (spIni (He.ga K "TooLong") ["most"]) [] (tCons (tC (.int 20000)) tNil) [some (V.int T.lo), some (V.int T.hi), some (V.ref a), some (V.int d), some (V.ref b), some (V.ref c), some (V.ref q1), some (V.ref q2), some (V.ref p3), some (V.int hi), some (V.int lo), none] H1 (fun cls d H' => E cls d H') := fun hx =>
        mko_ok (K := K) (ys := [.int 20000]) (fun _ q => q) rfl (by show 1 ≤ 1000; decide) fun dd H' s2 ed => k.2 lo hi d dd H' fm hx (s1.trans s2) ed
      refine ite2 (fun h1 => boom (.inl (of_decide_eq_true h1))) (fun h1 => ?_)
      have h1 : ¬ lo < -20000 := fun z => h1 (decide_eq_true z)
      refine ⟨_, rfl, _, _, rfl, rfl, _, rfl, ?_⟩
      refine ite2 (fun h2 => boom (.inr (of_decide_eq_true h2))) (fun h2 => ?_)
      have h2 : ¬ 20000 < hi := fun z => h2 (decide_eq_true z)
      have hz := fm.size
      refine ⟨_, rfl, _, rfl, _, _, rfl, rfl, _, _, rfl, ⟨by omega, by omega, by omega, by omega⟩, fun D hD => ?_⟩
      refine lc_itF (G := fun _ => True) walk_range hD (fun i => (fil T.has lo i).map V.int) rfl (fun i hi' => small1000 (by rw [List.length_map]; exact Nat.le_trans (fil_len _ _ _) (by omega))) (fun _ _ => trivial) ?_ ?_ ?_ ?_ ?_
      · rintro i x H2 H3 hi' eD s2 ⟨rfl, rfl⟩
        have sb := sub (lo + (i : Int)) (by omega) (by omega)
        have g : atI (T.cs.map V.bl) (lo + (i : Int) - T.lo) = some (.bl (T.has (lo + (i : Int)))) := by
          rw [blI_get (by omega) (by omega), Tl.core sb.1 sb.2]
        refine ⟨rfl, _, rfl, _, rfl, _, rfl, _, _, rfl, rfl, p3, _, _, _, rfl, rfl, SqL.of (s2 _ _ e3), g, _, rfl, ?_⟩
        cases hb' : T.has (lo + (i : Int)) with
        | false =>
          refine iteF ⟨eD, s2, ?_⟩
          rw [fil_neg (by rw [hb']; exact Bool.false_ne_true)]
        | true =>
          refine iteT ⟨_, rfl, eD, s2, ?_⟩
          rw [fil_pos hb', List.map_append]
          rfl
      · exact fun x H' Q Q' h q => h _ _ q
      · rintro σ2 H2 Q1 Q2 h ⟨x1, h1, x2, h2, x3, h3, i, j, f1, f2, p, xs, ii, v, f3, f4, sq, at_, k, ek, q⟩
        exact ⟨x1, h1, x2, h2, x3, h3, i, j, f1, f2, p, xs, ii, v, f3, f4, sq, at_, k, ek, h _ _ q⟩
      · rintro σ2 H2 Q1 Q2 h ⟨v, hv, q⟩
        exact ⟨v, hv, h _ _ q⟩
      · intro H4 eD s4
        have ht : ∀ l : List Bool, (l.take d).length ≤ d := fun l => by rw [List.length_take]; omega
        have htu := ht T.us
        have htd := ht T.ds
        refine ⟨_, rfl, _, rfl, _, rfl, _, rfl, _, rfl, q1, T.us.take d, rfl, s4 _ _ e1, by omega, fun r1 H5 n5 s5 e5 => ?_⟩
        refine ⟨_, rfl, q2, T.ds.take d, rfl, s5 _ _ (s4 _ _ e2), by omega, fun r2 H6 n6 s6 e6 => ?_⟩
        intro x dx hx hdx ne
        have sx : ∀ b o, H6 b = some o → (upd (upd H6 dx (.own x)) x (.ins (He.ga K "Lot") dx [])) b = some o := fun b o e => by
          rw [upd_ne (ne_of_none e hx), upd_ne (ne_of_none e hdx)]
          exact e
        refine ⟨x, dx, D, r1, r2, lo, hi, d, insOf T lo hi, resOf T.U d, resOf T.D d, rfl, upd_same, sx _ _ (s6 _ _ (s5 _ _ eD)), ?_, ?_, fun H7 la keep => ⟨rfl, ?_⟩⟩
        · refine sx _ _ (s6 _ _ ?_)
          rw [e5, res_take hd]
          rfl
        · refine sx _ _ ?_
          rw [e6, res_take (by rw [near.ok.len]; exact hd)]
          rfl
        · refine k.1 x lo hi d H7 fm (by omega) (by omega) (fun b o e => ?_) la
          have e' := s6 _ _ (s5 _ _ (s4 _ _ (s1 _ _ e)))
          exact keep b o (ne_of_none e' hx) (sx _ _ e')
    refine ⟨_, (pss_cons (ps_set (i := 6) sc_lotof.nd rfl (by walk_at "lv") (pe_k Gf (hr.mono (by decide)) (by rfl) pass0 (pa_cons pe_int (pa_cons (pe_op op_sub (pv 3) pe_int) (pa_cons (pv 4) pa_nil)))))
        (pss_cons (ps_set (i := 7) sc_lotof.nd rfl (by walk_at "lv") (pe_k Gf (hr.mono (by decide)) (by rfl) pass0 (pa_cons pe_int (pa_cons (pe_op op_sub (pv 3) pe_int) (pa_cons (pv 5) pa_nil)))))
        (pss_cons (ps_set (i := 8) sc_lotof.nd rfl (by walk_at "lv") (pe_k Gf (hr.mono (by decide)) (by rfl) pass0 (pa_cons (pv 0) (pa_cons (pv 1) (pa_cons (pv 2) pa_nil)))))
        (pss_cons (ps_set (i := 3) sc_lotof.nd rfl (by walk_at "lv") (pe_k Gm hr (by rfl) pass0 (pa_cons (pv 6) (pa_cons (pv 7) pa_nil))))
        (pss_cons (ps_set (i := 6) sc_lotof.nd rfl (by walk_at "lv") (pe_slice sl_list (pv 6) po_none (po_some (pv 3))))
        (pss_cons (ps_set (i := 7) sc_lotof.nd rfl (by walk_at "lv") (pe_slice sl_list (pv 7) po_none (po_some (pv 3))))
        (pss_cons (ps_set (i := 9) sc_lotof.nd rfl (by walk_at "lv") (pe_k Gg (hr.mono (by decide)) (by rfl) pass0 (pa_cons (pv 0) (pa_cons (pv 8) (pa_cons (pv 6) (pa_cons (pv 7) pa_nil))))))
        (pss_cons (ps_if (pt_cmpR op_isN (pv 9) pe_non (nomark _)) (pss_one (ps_asg (pe_tup (pa_cons pe_int (pa_cons (pe_un un_neg pe_int) pa_nil))) (pg_tup (by rfl) (pgs_cons (pg_name (i := 10) sc_lotof.nd rfl (by walk_at "lv")) (pgs_cons (pg_name (i := 9) sc_lotof.nd rfl (by walk_at "lv")) pgs_nil))))) (pss_one (ps_set (i := 10) sc_lotof.nd rfl (by walk_at "lv") (pe_callB (call_min2 rfl) (by rfl) N.min (by decide +kernel) (pa_cons (pe_k Gl_ (hr.mono (by decide)) (by rfl) pass0 (pa_cons (pv 0) (pa_cons (pv 8) (pa_cons (pv 6) (pa_cons (pv 7) pa_nil))))) (pa_cons (pe_op op_add (pv 9) pe_int) pa_nil))))))
        dtl)))))))), ?_⟩
    refine ⟨_, rfl, _, _, rfl, rfl, _, rfl, b, us, _, _, rfl, hb, by omega, by omega, by omega, by omega, told.u, fun p1 bs1 H1 n1 s1 e1 l1 g1 => ?_⟩
    have eb1 : bs1 = T.us := getD_ext (by omega) fun k hk => by rw [g1 k hk, told.uc k (by omega)]
    subst eb1
    refine ⟨_, rfl, _, _, rfl, rfl, _, rfl, c, ds, _, _, rfl, hc.same s1, by omega, by omega, by omega, by omega, told.d, fun p2 bs2 H2 n2 s2 e2 l2 g2 => ?_⟩
    have eb2 : bs2 = T.ds := getD_ext (by rw [near.ok.len]; omega) fun k hk => by rw [g2 k hk, told.dc k (by omega)]
    subst eb2
    refine ⟨_, rfl, _, rfl, _, rfl, a, ins, _, _, rfl, (ha.same s1).same s2, by omega, by omega, by omega, by omega, told.i, fun p3 bs3 H3 n3 s3 e3 l3 g3 => ?_⟩
    have eb3 : bs3 = T.cs := getD_ext (by omega) fun k hk => by rw [g3 k hk, told.ic k (by omega)]
    subst eb3
    refine ⟨_, rfl, _, rfl, p1, p2, T.us, T.ds, rfl, s3 _ _ (s2 _ _ e1), s3 _ _ e2, near.ok.len, hm, hm1, fun H4 d s4 ld hd => ?_⟩
    have cut : ∀ l : List Bool, d ≤ l.length → cutV (l.map V.bl) none (some (d : Int)) = (l.take d).map V.bl := fun l hl => by
      unfold cutV
      rw [HT.sIx_none, HT.sIx_nat, List.drop_zero, List.length_map, Nat.min_eq_left hl, List.map_take]
      rfl
    refine ⟨_, rfl, _, rfl, _, rfl, p1, _, rfl, SqL.of (s4 _ _ (s3 _ _ (s2 _ _ e1))), fun q1 hq1 => ?_⟩
    rw [cut _ hd]
    have s5 := same_new (o := .lst ((T.us.take d).map V.bl)) s4 hq1
    refine ⟨_, rfl, _, rfl, _, rfl, p2, _, rfl, SqL.of (s5 _ _ (s3 _ _ e2)), fun q2 hq2 => ?_⟩
    rw [cut _ (by rw [near.ok.len]; exact hd)]
    have s6 := same_new (o := .lst ((T.ds.take d).map V.bl)) s5 hq2
    have s36 : Same H _ := (s1.trans (s2.trans s3)).trans s6
    have hq12 : q1 ≠ q2 := ne_of_none upd_same hq2
    have d0 := ld.pos
    have eU : cyc (T.us.take d) = cyc T.us := cyc_take d0 hd ld.pu
    have eD : cyc (T.ds.take d) = cyc T.ds := cyc_take d0 (by rw [near.ok.len]; exact hd) ld.pd
    have eH : (Tl.mk T.lo T.cs (T.us.take d) (T.ds.take d)).has = T.has := by
      funext n
      unfold Tl.has Tl.U Tl.D
      simp only [eU, eD]
      rfl
    have lu : (T.us.take d).length = d := by rw [List.length_take]; omega
    have lds : (T.ds.take d).length = d := by rw [List.length_take, near.ok.len]; omega
    have near' : (Tl.mk T.lo T.cs (T.us.take d) (T.ds.take d)).Near := ⟨⟨by show (T.ds.take d).length = (T.us.take d).length; rw [lu, lds], by show 0 < (T.us.take d).length; rw [lu]; exact d0⟩, by show (T.us.take d).length ≤ 1000; omega, near.c, near.lo⟩
    have at' : TlAt (upd (upd H4 q1 (.lst ((T.us.take d).map V.bl))) q2 (.lst ((T.ds.take d).map V.bl))) (Tl.mk T.lo T.cs (T.us.take d) (T.ds.take d)) p3 q1 q2 := ⟨s6 _ _ e3, by rw [upd_ne hq12]; exact upd_same, upd_same⟩
    refine ⟨_, rfl, _, rfl, _, rfl, _, rfl, Tl.mk T.lo T.cs (T.us.take d) (T.ds.take d), p3, q1, q2, rfl, at', near', fun no => ?_, fun v h1 h2 h3 => ?_⟩
    · have no' : ∀ n, T.has n = T.U n := fun n => by
        have := no n
        rw [eH] at this
        rw [this]
        show cyc (T.us.take d) n = cyc T.us n
        rw [eU]
      refine ⟨_, rfl, rfl, _, rfl, iteT ?_⟩
      refine ⟨_, rfl, ⟨(by show 2 ≤ sizeLine; decide), fun t ht => ⟨t, _, rfl, SqT.of upd_same, rfl, _, _, rfl, _, _, rfl, rfl, ?_⟩⟩⟩
      have s7 := same_new (o := .tup [V.int 0, V.int (-1)]) s36 ht
      have st := same_new (o := .tup [V.int 0, V.int (-1)]) (Same.refl _) ht
      exact tail _ 0 (-1) d p3 q1 q2 (form_none near.ok ld no') hd (by omega) (by omega) (by omega) (by omega) (by omega) (fun n h1 h2 => by omega) s7 (st _ _ at'.cs) (st _ _ at'.us) (st _ _ at'.ds)
    · have h1' : T.has v ≠ T.U v := fun z => h1 (by
        rw [eH, z]
        show cyc T.us v = cyc (T.us.take d) v
        rw [eU])
      have h2' : ∀ n, v < n → T.has n = T.U n := fun n hn => by
        have := h2 n hn
        rw [eH] at this
        rw [this]
        show cyc (T.us.take d) n = cyc T.us n
        rw [eU]
      have h3' : v ≤ T.hi := h3
      refine ⟨_, rfl, rfl, _, rfl, iteF ?_⟩
      refine ⟨_, rfl, _, rfl, _, rfl, _, rfl, Tl.mk T.lo T.cs (T.us.take d) (T.ds.take d), p3, q1, q2, rfl, at', near', ⟨v, h1⟩, fun b H7 s7 b1 b2 b3 => ?_⟩
      refine ⟨_, rfl, _, _, rfl, rfl, _, _, rfl, ?_⟩
      have b1' : T.has b ≠ T.D b := fun z => b1 (by
        rw [eH, z]
        show cyc T.ds b = cyc (T.ds.take d) b
        rw [eD])
      have b2' : ∀ n, n < b → T.has n = T.D n := fun n hn => by
        have := b2 n hn
        rw [eH] at this
        rw [this]
        show cyc (T.ds.take d) n = cyc T.ds n
        rw [eD]
      have b3' : T.lo ≤ b := b3
      have vlo : T.lo - T.m ≤ v := by
        rcases Int.lt_or_le v (T.lo - T.m) with q | q
        · refine absurd ?_ h1'
          have hm2 : (0 : Int) < (T.m : Int) := by unfold Tl.m; omega
          have q1 := h2' (v + T.m) (by omega)
          rw [Tl.below (by omega), near.ok.pd, near.ok.pu] at q1
          rw [Tl.below (by omega)]
          exact q1
        · exact q
      have hmm : T.m = T.us.length := rfl
      have fm := form_some ld h1' h2' b1' b2'
      refine tail H7 (if v + 1 < b then v + 1 else b) v d p3 q1 q2 fm hd ?_ ?_ (by omega) (by omega) ?_ ?_ (s36.trans s7) (s7 _ _ at'.cs) (s7 _ _ at'.us) (s7 _ _ at'.ds)
      · split <;> omega
      · split <;> omega
      · split <;> omega
      · intro n hn1 hn2
        split at hn1 <;> omega
end
end My
set_option Elab.async false
set_option linter.all false
set_option maxRecDepth 100000
set_option maxHeartbeats 8000000
namespace My
open PySem PySem.Spec PyProof.Rows L2
local macro_rules | `(tactic| walk_at "lv") => `(tactic| first | exact Or.inl rfl | exact Or.inr rfl)
/-- a telling stands at t -/
structure TellAt (H : Hp) (t : Addr) (T : Tl) (c u d : Addr) : Prop where
  t : H t = some (.lst [.int T.lo, .int T.hi, .ref c, .int T.us.length, .ref u, .ref d])
  l : TlAt H T c u d
theorem TellAt.same {H H' : Hp} {t : Addr} {T : Tl} {c u d : Addr} (s : Same H H') (h : TellAt H t T c u d) : TellAt H' t T c u d := ⟨s _ _ h.t, h.l.same s⟩
theorem erase_map {α β : Type} (f : α → β) : ∀ (xs : List α) (k : Nat), (xs.map f).eraseIdx k = (xs.eraseIdx k).map f
  | [], _ => rfl
  | _ :: _, 0 => rfl
  | x :: r, k + 1 => by
    show f x :: (r.map f).eraseIdx k = f x :: (r.eraseIdx k).map f
    rw [erase_map f r k]
theorem log_small {n : Nat} (h : n ≤ 1000) : (n : Int).natAbs.log2 < 9000 := by
  have : (n : Int).natAbs.log2 ≤ (n : Int).natAbs := Nat.log2_le_self _
  omega
theorem perm_erase {α : Type} : ∀ {xs : List α} {k : Nat} (h : k < xs.length), ([xs[k]] ++ xs.eraseIdx k).Perm xs
  | x :: r, 0, _ => List.Perm.refl _
  | x :: r, k + 1, h => by
    have h' : k < r.length := by simpa using h
    show ([r[k]] ++ (x :: r.eraseIdx k)).Perm (x :: r)
    exact (List.Perm.swap _ _ _).trans ((perm_erase h').cons x)
section
variable {P : Program} {w : World} {K : PySem.W.Frag} {mg : Str → Option Value} {base : Heap}
/-! ### _law_whole -/
abbrev s_lwh : Stmt := top 35
abbrev N_lwh : List Str := ["_law_thing"]
theorem sc_lwh : FnScope N_lwh ["_law_thing"] (defScope s_lwh) := ⟨rfl, rfl, rfl, by decide +kernel, rfl, by decide +kernel, by decide +kernel⟩
theorem kp_lwh (F : At K mg "_law_whole" s_lwh) (N : Nb mg) : Keeps CX0 P w K mg base "_law_whole" 1 ["_law_thing"] spWhole := by
  refine keeps_of F sc_lwh (fun _ _ _ _ _ _ us hl => match us, hl with | [_], _ => rfl) (fun vs H Q E h => ?_) (fun f cdv A outer s H vs Q E hr h => ?_)
  · obtain ⟨a, rfl, _⟩ := h
    rfl
  · obtain ⟨a, rfl, k⟩ := h
    refine ⟨_, (pss_one (ps_ret (pe_and (pe_callB call_isi (by rfl) N.isinstance boot_isinstance (pa_cons (pv 0) (pa_cons (pe_bltn (v := .ty "int") (by rfl) N.int (by decide +kernel) rfl) pa_nil))) (pe_one (pe_not (pe_callB call_isi (by rfl) N.isinstance boot_isinstance (pa_cons (pv 0) (pa_cons (pe_bltn (v := .ty "bool") (by rfl) N.bool (by decide +kernel) rfl) pa_nil)))))))), ?_⟩
    refine ⟨_, rfl, .int a, .ty "int", _, _, true, rfl, .ty "int", .base (.int a), kit_ty (by decide +kernel), _, rfl, ?_⟩
    exact ⟨_, rfl, .int a, .ty "bool", _, _, false, rfl, .ty "bool", .base (.int a), kit_ty (by decide +kernel), _, rfl, k⟩
/-! ### _law_row_of -/
def spRow : Sp := fun vs H Q _ => ∃ (a : Addr) (ns : List Int) (lo hi : Int), vs = [.ref a, .int lo, .int hi] ∧ H a = some (.tup (ns.map V.int)) ∧ ns.Pairwise (· < ·) ∧ (∀ n ∈ ns, lo ≤ n ∧ n ≤ hi) ∧ Q (.bl true) H
abbrev s_row : Stmt := top 36
abbrev N_row : List Str := ["_law_thing", "_law_low", "_law_high", "_law_last", "_law_number"]
theorem sc_row : FnScope N_row ["_law_thing", "_law_low", "_law_high"] (defScope s_row) := ⟨rfl, rfl, rfl, by decide +kernel, rfl, by decide +kernel, by decide +kernel⟩
theorem kp_row (F : At K mg "_law_row_of" s_row) (G : Keeps CX0 P w K mg base "_law_whole" 1 ["_law_thing"] spWhole) (N : Nb mg) : Keeps CX0 P w K mg base "_law_row_of" 2 ["_law_thing", "_law_low", "_law_high"] spRow := by
  refine keeps_of F sc_row (fun _ _ _ _ _ _ us hl => match us, hl with | [_, _, _], _ => rfl) (fun vs H Q E h => ?_) (fun f cdv A outer s H vs Q E hr h => ?_)
  · obtain ⟨a, ns, lo, hi, rfl, _⟩ := h
    rfl
  · obtain ⟨a, ns, lo, hi, rfl, ha, asc, hb, k⟩ := h
    refine ⟨_, (pss_cons (ps_if (pt_not (pt_val (pe_callB call_isi (by rfl) N.isinstance boot_isinstance (pa_cons (pv 0) (pa_cons (pe_bltn (v := .ty "tuple") (by rfl) N.tuple (by decide +kernel) rfl) pa_nil))))) (pss_one (ps_ret pe_bl)) pss_nil)
        (pss_cons (ps_set (i := 3) sc_row.nd rfl (by walk_at "lv") (pe_op op_sub (pv 1) pe_int))
        (pss_cons (ps_for PassesOwn.never rfl (pi_tup (pv 0)) (pg_name (i := 4) sc_row.nd rfl (by walk_at "lv")) (pss_cons (ps_if (PW.pt (pw_or (pt_not (pt_val (pe_k G hr (by rfl) pass0 (pa_cons (pv 4) pa_nil)))) (pw_or (pt_cmpR op_le (pv 4) (pv 3) (nomark _)) (pw_or1 (pt_cmpR op_gt (pv 4) (pv 2) (nomark _)))))) (pss_one (ps_ret pe_bl)) pss_nil) (pss_one (ps_set (i := 3) sc_row.nd rfl (by walk_at "lv") (pv 4)))))
        (pss_one (ps_ret pe_bl))))), ?_⟩
    refine ⟨_, rfl, .ref a, .ty "tuple", _, _, true, rfl, .ty "tuple", .base (.tup ha), kit_ty (by decide +kernel), _, rfl, iteF ?_⟩
    refine ⟨_, rfl, _, _, rfl, rfl, ?_⟩
    refine ⟨_, rfl, a, rfl, ⟨_, SqT.of ha⟩, for_it (walk_tup (K := K) (a := a) (xs := ns.map V.int)) (fun i σ H2 => ∃ (x : Option V) (last : Int), σ = [some (.ref a), some (.int lo), some (.int hi), some (.int last), x] ∧ H2 = H ∧ ∀ n ∈ ns.drop i, last < n) ⟨_, lo - 1, rfl, rfl, fun n hn => by have := (hb n (List.mem_of_mem_drop hn)).1; omega⟩ (fun i σ H2 _ ⟨_, _, _, e, _⟩ => by rw [e]; exact SqT.of ha) ?_ ?_⟩
    · rintro i v σ H2 H3 hi' ⟨x, last, rfl, rfl, inv⟩ ⟨rfl, e4⟩
      obtain ⟨n, hn, rfl⟩ := int_at e4
      obtain ⟨hi3, hi4⟩ := List.getElem?_eq_some_iff.mp hn
      have hd : ns.drop i = n :: ns.drop (i + 1) := by rw [List.drop_eq_getElem_cons hi3, hi4]
      have h1 := inv n (by rw [hd]; exact List.mem_cons_self)
      have h2 := hb n (List.mem_of_getElem? hn)
      refine ⟨_, rfl, n, rfl, _, rfl, iteF ⟨_, rfl, _, rfl, _, _, rfl, rfl, _, rfl, ?_⟩⟩
      rw [decide_eq_false (by omega : ¬ n ≤ last)]
      refine iteF ⟨_, rfl, _, rfl, _, _, rfl, rfl, _, rfl, ?_⟩
      rw [decide_eq_false (by omega : ¬ n > hi)]
      refine iteF ⟨_, rfl, _, n, rfl, rfl, fun m hm => ?_⟩
      have as2 := asc.sublist (List.drop_sublist i ns)
      rw [hd] at as2
      exact (List.pairwise_cons.mp as2).1 m hm
    · rintro σ H2 ⟨x, last, rfl, rfl, _⟩
      exact k
/-! ### _law_turned -/
theorem HandC.ne {H : Hp} {p c q : Addr} (h : HandC H p c) (hq : H q = none) : p ≠ q ∧ c ≠ q := by
  obtain ⟨_, _, _, _, h1, h2, _⟩ := h
  exact ⟨ne_of_none h1 hq, ne_of_none h2 hq⟩
theorem HandC.upd {H : Hp} {p c q : Addr} {o : HO} (h : HandC H p c) (h1 : p ≠ q) (h2 : c ≠ q) : HandC (upd H q o) p c := by
  obtain ⟨cs, i, r, t, e1, e2, e3⟩ := h
  exact ⟨cs, i, r, t, by rw [upd_ne h1]; exact e1, by rw [upd_ne h2]; exact e2, e3⟩
theorem HandC.same {H H' : Hp} {p c : Addr} (s : Same H H') (h : HandC H p c) : HandC H' p c := by
  obtain ⟨cs, i, r, t, e1, e2, e3⟩ := h
  exact ⟨cs, i, r, t, s _ _ e1, s _ _ e2, e3⟩
theorem But.of {p : Addr} {H H' : Hp} (s : Same H H') : But p H H' := fun b o _ e => s b o e
theorem But.trans {p : Addr} {H H1 H2 : Hp} (a : But p H H1) (b : But p H1 H2) : But p H H2 := fun c o hc e => b c o hc (a c o hc e)
/-! ### _law_has -/
def spHas : Sp := fun vs H Q _ => ∃ (t c u d : Addr) (T : Tl) (n : Int), vs = [.ref t, .int n] ∧ TellAt H t T c u d ∧ T.Ok ∧ Q (.bl (T.has n)) H
abbrev s_has : Stmt := top 38
abbrev N_has : List Str := ["_law_telling", "_law_number", "_law_low", "_law_high", "_law_core", "_law_modulus", "_law_ups", "_law_downs"]
theorem sc_has : FnScope N_has ["_law_telling", "_law_number"] (defScope s_has) := ⟨rfl, rfl, rfl, by decide +kernel, rfl, by decide +kernel, by decide +kernel⟩
theorem kp_has (F : At K mg "_law_has" s_has) (N : Nb mg) : Keeps CX0 P w K mg base "_law_has" 1 ["_law_telling", "_law_number"] spHas := by
  refine keeps_of F sc_has (fun _ _ _ _ _ _ us hl => match us, hl with | [_, _], _ => rfl) (fun vs H Q E h => ?_) (fun f cdv A outer s H vs Q E hr h => ?_)
  · obtain ⟨t, c, u, d, T, n, rfl, _⟩ := h
    rfl
  · obtain ⟨t, c, u, d, T, n, rfl, a, ok, k⟩ := h
    have hm := ok.pos
    have hm' : (0 : Int) < (T.us.length : Int) := by omega
    refine ⟨_, (pss_cons (ps_asg (pv 0) (pg_unl (by rfl) (pgs_cons (pg_name (i := 2) sc_has.nd rfl (by walk_at "lv")) (pgs_cons (pg_name (i := 3) sc_has.nd rfl (by walk_at "lv")) (pgs_cons (pg_name (i := 4) sc_has.nd rfl (by walk_at "lv")) (pgs_cons (pg_name (i := 5) sc_has.nd rfl (by walk_at "lv")) (pgs_cons (pg_name (i := 6) sc_has.nd rfl (by walk_at "lv")) (pgs_cons (pg_name (i := 7) sc_has.nd rfl (by walk_at "lv")) pgs_nil))))))))
        (pss_cons (ps_if (pt_cmpR op_lt (pv 1) (pv 2) (nomark _)) (pss_one (ps_ret (pe_ix ix_list (pv 7) (pe_op op_mod (pe_callTy call_int1 (by rfl) N.int boot_int (pa_cons (pv 1) pa_nil)) (pv 5)) (fun _ _ => rfl)))) pss_nil)
        (pss_cons (ps_if (pt_cmpR op_gt (pv 1) (pv 3) (nomark _)) (pss_one (ps_ret (pe_ix ix_list (pv 6) (pe_op op_mod (pe_callTy call_int1 (by rfl) N.int boot_int (pa_cons (pv 1) pa_nil)) (pv 5)) (fun _ _ => rfl)))) pss_nil)
        (pss_one (ps_ret (pe_ix ix_list (pv 4) (pe_op op_sub (pv 1) (pv 2)) (fun _ _ => rfl))))))), ?_⟩
    refine ⟨_, rfl, t, _, rfl, SqL.of a.t, rfl, _, _, rfl, _, _, rfl, _, _, rfl, _, _, rfl, _, _, rfl, _, _, rfl, rfl, ?_⟩
    refine ⟨_, rfl, _, rfl, _, _, rfl, rfl, _, rfl, ite2 (fun h1 => ?_) (fun h1 => ?_)⟩
    · have h1 : n < T.lo := of_decide_eq_true h1
      refine ⟨_, rfl, _, rfl, .inl ⟨_, rfl, _, rfl, _, _, rfl, rfl, hm', d, _, _, _, rfl, rfl, SqL.of a.l.ds, cyc_get (n := n) ok.len hm, ?_⟩⟩
      rw [show cyc T.ds n = T.has n from (Tl.below h1).symm]
      exact k
    · have h1 : ¬ n < T.lo := fun z => h1 (decide_eq_true z)
      refine ⟨_, rfl, _, rfl, _, _, rfl, rfl, _, rfl, ite2 (fun h2 => ?_) (fun h2 => ?_)⟩
      · have h2 : T.hi < n := of_decide_eq_true h2
        refine ⟨_, rfl, _, rfl, .inl ⟨_, rfl, _, rfl, _, _, rfl, rfl, hm', u, _, _, _, rfl, rfl, SqL.of a.l.us, cyc_get (n := n) rfl hm, ?_⟩⟩
        rw [show cyc T.us n = T.has n from (Tl.above h2).symm]
        exact k
      · have h2 : ¬ T.hi < n := fun z => h2 (decide_eq_true z)
        have hhi : T.hi = T.lo + T.cs.length - 1 := rfl
        refine ⟨_, rfl, _, rfl, _, rfl, _, _, rfl, rfl, c, _, _, _, rfl, rfl, SqL.of a.l.cs, blI_get (i := n - T.lo) (by omega) (by omega), ?_⟩
        rw [← Tl.core (by omega) (by omega)]
        exact k
/-- [k for k in range(n) if xs[k]] -/
theorem lc_res {σ : L2.St} {H : Hp} {Q : VK} {i j l m : Nat} {a : Addr} {bs : List Bool} (hj : σ[j]? = some (some (.int (m : Int)))) (hm : m ≤ bs.length) (hm2 : m ≤ 1000) (ha : H a = some (.lst (bs.map V.bl))) (hl : ∀ v, ((wipe σ [i]).set i (some v))[l]? = some (some (.ref a)))
    (hi : ∀ v, ((wipe σ [i]).set i (some v))[i]? = some (some v)) (hw : ∀ v, wipe ((wipe σ [i]).set i (some v)) [i] = wipe σ [i])
    (k : ∀ D H', Same H H' → H D = none → H' D = some (.lst ((fil (fun k => bs.getD k.toNat false) 0 m).map V.int)) → Q (.ref D) H') :
    tLc (iRng1 (tCons (tVar j) tNil)) (gName i) (tB (tOp (rIxL K) (tVar l) (tVar i))) (tVar i) [i] σ H Q := by
  refine ⟨_, hj, _, rfl, by omega, by omega, fun D hD => ?_⟩
  rw [show ((m : Int)).toNat = m by omega]
  refine lc_itF (G := fun _ => True) walk_range hD (fun x => (fil (fun k => bs.getD k.toNat false) 0 x).map V.int) rfl (fun x hx => small1000 (by rw [List.length_map]; exact Nat.le_trans (fil_len _ _ _) (by omega))) (fun _ _ => trivial) ?_ ?_ ?_ ?_ (fun H' e s => k D H' s hD e)
  · rintro x v H2 H3 hx e s ⟨rfl, rfl⟩
    refine ⟨hw _, _, hl _, _, hi _, a, _, _, _, rfl, rfl, SqL.of (s _ _ ha), blI_get (i := 0 + (x : Int)) (by omega) (by omega), _, rfl, ?_⟩
    cases hb : bs.getD (0 + (x : Int)).toNat false with
    | false =>
      refine iteF ⟨e, s, ?_⟩
      rw [fil_neg (by rw [hb]; exact Bool.false_ne_true)]
    | true =>
      refine iteT ⟨_, hi _, e, s, ?_⟩
      rw [fil_pos hb, List.map_append]
      rfl
  · exact fun x H' Q Q' h q => h _ _ q
  · rintro σ2 H2 Q1 Q2 h ⟨x1, h1, x2, h2, p, xs, ii, v, f3, f4, sq, at_, k, ek, q⟩
    exact ⟨x1, h1, x2, h2, p, xs, ii, v, f3, f4, sq, at_, k, ek, h _ _ q⟩
  · rintro σ2 H2 Q1 Q2 h ⟨v, hv, q⟩
    exact ⟨v, hv, h _ _ q⟩
/-! ### _law_parts -/
/-- the three lists of numbers -/
def cIns (T : Tl) : List Int := (res T.cs).map fun k => T.lo + k
structure PartsAt (H : Hp) (q : Addr) (T : Tl) (a b c : Addr) : Prop where
  q : H q = some (.tup [.int T.lo, .int T.hi, .ref a, .int T.us.length, .ref b, .ref c])
  a : H a = some (.lst ((cIns T).map V.int))
  b : H b = some (.lst ((res T.us).map V.int))
  c : H c = some (.lst ((res T.ds).map V.int))
def spParts : Sp := fun vs H Q _ => ∃ (t c u d : Addr) (T : Tl), vs = [.ref t] ∧ TellAt H t T c u d ∧ T.Ok ∧ T.us.length ≤ 1000 ∧ T.cs.length ≤ 1000 ∧ ∀ q a1 a2 a3 H', Same H H' → PartsAt H' q T a1 a2 a3 → H a1 = none → H a2 = none → H a3 = none → Q (.ref q) H'
abbrev s_parts : Stmt := top 39
abbrev N_parts : List Str := ["_law_telling", "_law_low", "_law_high", "_law_core", "_law_modulus", "_law_ups", "_law_downs", "_law_k"]
theorem sc_parts : FnScope N_parts ["_law_telling"] (defScope s_parts) := ⟨rfl, rfl, rfl, by decide +kernel, rfl, by decide +kernel, by decide +kernel⟩
theorem kp_parts (F : At K mg "_law_parts" s_parts) (N : Nb mg) : Keeps CX0 P w K mg base "_law_parts" 1 ["_law_telling"] spParts := by
  refine keeps_of F sc_parts (fun _ _ _ _ _ _ us hl => match us, hl with | [_], _ => rfl) (fun vs H Q E h => ?_) (fun f cdv A outer s H vs Q E hr h => ?_)
  · obtain ⟨t, c, u, d, T, rfl, _⟩ := h
    rfl
  · obtain ⟨t, c, u, d, T, rfl, a, ok, hl1, hl2, k⟩ := h
    have hm := ok.pos
    refine ⟨_, (pss_cons (ps_asg (pv 0) (pg_unl (by rfl) (pgs_cons (pg_name (i := 1) sc_parts.nd rfl (by walk_at "lv")) (pgs_cons (pg_name (i := 2) sc_parts.nd rfl (by walk_at "lv")) (pgs_cons (pg_name (i := 3) sc_parts.nd rfl (by walk_at "lv")) (pgs_cons (pg_name (i := 4) sc_parts.nd rfl (by walk_at "lv")) (pgs_cons (pg_name (i := 5) sc_parts.nd rfl (by walk_at "lv")) (pgs_cons (pg_name (i := 6) sc_parts.nd rfl (by walk_at "lv")) pgs_nil))))))))
        (pss_one (ps_ret (pe_tup (pa_cons (pv 1) (pa_cons (pv 2) (pa_cons (pe_lc (own := [("_law_k", 7)]) (g := gName 7) rfl sc_parts.nd (pi_range1 (by rfl) N.range (pa_cons (pe_callB call_len_seq (by rfl) N.len (by decide +kernel) (pa_cons (pv 3) pa_nil)) pa_nil)) (blkOk_by (N := N_parts) (sc := defScope s_parts) (by decide +kernel)) (fun _ _ _ _ _ => (pg_name (i := 7) sc_parts.nd rfl (by walk_at "lv"))) (fun _ _ _ _ _ => (pts_one (pt_val (pe_ix ix_list (r := rIxL K) (pv 3) (pv 7) (fun _ _ => rfl))))) (fun _ _ _ _ _ => (pe_op op_add (pv 1) (pv 7)))) (pa_cons (pv 4) (pa_cons (pe_lc (own := [("_law_k", 7)]) (g := gName 7) rfl sc_parts.nd (pi_range1 (by rfl) N.range (pa_cons (pv 4) pa_nil)) (blkOk_by (N := N_parts) (sc := defScope s_parts) (by decide +kernel)) (fun _ _ _ _ _ => (pg_name (i := 7) sc_parts.nd rfl (by walk_at "lv"))) (fun _ _ _ _ _ => (pts_one (pt_val (pe_ix ix_list (r := rIxL K) (pv 5) (pv 7) (fun _ _ => rfl))))) (fun _ _ _ _ _ => (pv 7))) (pa_cons (pe_lc (own := [("_law_k", 7)]) (g := gName 7) rfl sc_parts.nd (pi_range1 (by rfl) N.range (pa_cons (pv 4) pa_nil)) (blkOk_by (N := N_parts) (sc := defScope s_parts) (by decide +kernel)) (fun _ _ _ _ _ => (pg_name (i := 7) sc_parts.nd rfl (by walk_at "lv"))) (fun _ _ _ _ _ => (pts_one (pt_val (pe_ix ix_list (r := rIxL K) (pv 6) (pv 7) (fun _ _ => rfl))))) (fun _ _ _ _ _ => (pv 7))) pa_nil)))))))))), ?_⟩
    refine ⟨_, rfl, t, _, rfl, SqL.of a.t, rfl, _, _, rfl, _, _, rfl, _, _, rfl, _, _, rfl, _, _, rfl, _, _, rfl, rfl, ?_⟩
    refine ⟨_, rfl, _, rfl, _, rfl, c, _, rfl, .inl (SqL.of a.l.cs), _, rfl, by rw [List.length_map]; omega, by rw [List.length_map]; omega, fun D hD => ?_⟩
    rw [List.length_map, show ((T.cs.length : Int)).toNat = T.cs.length by omega]
    refine lc_itF (G := fun _ => True) walk_range hD (fun x => ((fil (fun k => T.cs.getD k.toNat false) 0 x).map fun k => T.lo + k).map V.int) rfl (fun x hx => small1000 (by rw [List.length_map, List.length_map]; exact Nat.le_trans (fil_len _ _ _) (by omega))) (fun _ _ => trivial) ?_ ?_ ?_ ?_ ?_
    · rintro x v H2 H3 hx e s ⟨rfl, rfl⟩
      refine ⟨rfl, _, rfl, _, rfl, c, _, _, _, rfl, rfl, SqL.of (s _ _ a.l.cs), blI_get (i := 0 + (x : Int)) (by omega) (by omega), _, rfl, ?_⟩
      cases hb : T.cs.getD (0 + (x : Int)).toNat false with
      | false =>
        refine iteF ⟨e, s, ?_⟩
        rw [fil_neg (by rw [hb]; exact Bool.false_ne_true)]
      | true =>
        refine iteT ⟨_, rfl, _, rfl, _, _, rfl, rfl, e, s, ?_⟩
        rw [fil_pos hb, List.map_append, List.map_append]
        rfl
    · exact fun x H' Q Q' h q => h _ _ q
    · rintro σ2 H2 Q1 Q2 h ⟨x1, h1, x2, h2, p, xs, ii, v, f3, f4, sq, at_, k, ek, q⟩
      exact ⟨x1, h1, x2, h2, p, xs, ii, v, f3, f4, sq, at_, k, ek, h _ _ q⟩
    · rintro σ2 H2 Q1 Q2 h ⟨v, hv, w, hw, i, j, e1, e2, q⟩
      exact ⟨v, hv, w, hw, i, j, e1, e2, h _ _ q⟩
    · intro H1 e1 s1
      refine ⟨_, rfl, lc_res (bs := T.us) (a := u) rfl (Nat.le_refl _) hl1 (s1 _ _ a.l.us) (fun _ => rfl) (fun _ => rfl) (fun _ => rfl) fun D2 H2 s2 n2 e2 => ?_⟩
      refine lc_res (bs := T.ds) (a := d) rfl (by rw [ok.len]; exact Nat.le_refl _) hl1 (s2 _ _ (s1 _ _ a.l.ds)) (fun _ => rfl) (fun _ => rfl) (fun _ => rfl) fun D3 H3 s3 n3 e3 => ?_
      refine ⟨(by show 6 ≤ sizeLine; decide), fun q hq => ?_⟩
      have s4 := same_new (o := .tup [V.int T.lo, V.int T.hi, V.ref D, V.int T.us.length, V.ref D2, V.ref D3]) s3 hq
      refine k q D D2 D3 _ (s1.trans (s2.trans s4)) ⟨upd_same, s4 _ _ (s2 _ _ e1), s4 _ _ e2, ?_⟩ hD (s1.free n2) ((s1.trans s2).free n3)
      have e3' := (same_new (o := .tup [V.int T.lo, V.int T.hi, V.ref D, V.int T.us.length, V.ref D2, V.ref D3]) (Same.refl H3) hq) _ _ e3
      rw [e3', show res T.ds = fil (fun k => T.ds.getD k.toNat false) 0 T.us.length by unfold res; rw [ok.len]]
end
end My
set_option Elab.async false
set_option linter.all false
set_option maxRecDepth 100000
set_option maxHeartbeats 8000000
namespace My
open PySem PySem.Spec PyProof.Rows L2
local macro_rules | `(tactic| walk_at "lv") => `(tactic| first | exact Or.inl rfl | exact Or.inr rfl)
/-- a form's six things as a tuple -/
def FormAt (H : Hp) (q : Addr) (lo hi : Int) (ins : List Int) (m : Nat) (us ds : List Int) : Prop :=
  ∃ a b c, H q = some (.tup [.int lo, .int hi, .ref a, .int m, .ref b, .ref c]) ∧ H a = some (.tup (ins.map V.int)) ∧ H b = some (.tup (us.map V.int)) ∧ H c = some (.tup (ds.map V.int))
theorem FormAt.same {H H' : Hp} {q : Addr} {lo hi : Int} {ins us ds : List Int} {m : Nat} (s : Same H H') (h : FormAt H q lo hi ins m us ds) : FormAt H' q lo hi ins m us ds := by
  obtain ⟨a, b, c, h1, h2, h3, h4⟩ := h
  exact ⟨a, b, c, s _ _ h1, s _ _ h2, s _ _ h3, s _ _ h4⟩
def formD (lo hi : Int) (ins : List Int) (m : Nat) (us ds : List Int) : PyData := .tuple [.int lo, .int hi, .tuple (ins.map PyData.int), .int m, .tuple (us.map PyData.int), .tuple (ds.map PyData.int)]
theorem FormAt.dp {K : PySem.W.Frag} {H : Hp} {q : Addr} {lo hi : Int} {ins us ds : List Int} {m : Nat} (h : FormAt H q lo hi ins m us ds) : Dp K H (.ref q) (formD lo hi ins m us ds) := by
  obtain ⟨a, b, c, h1, h2, h3, h4⟩ := h
  exact .tup (SqT.of h1) (.cons (.int _) (.cons (.int _) (.cons (.tup (SqT.of h2) (dp_ints _)) (.cons (.int _) (.cons (.tup (SqT.of h3) (dp_ints _)) (.cons (.tup (SqT.of h4) (dp_ints _)) .nil))))))
theorem formD_lay (lo hi : Int) (ins : List Int) (m : Nat) (us ds : List Int) : (formD lo hi ins m us ds).canLay0 = true ∧ SeqAt.shaped (formD lo hi ins m us ds) = true := by
  have h1 : PyData.canLayAll0 [.int lo, .int hi, .tuple (ins.map PyData.int), .int m, .tuple (us.map PyData.int), .tuple (ds.map PyData.int)] = true := by
    show (true && (true && (PyData.canLayAll0 (ins.map PyData.int) && (true && (PyData.canLayAll0 (us.map PyData.int) && (PyData.canLayAll0 (ds.map PyData.int) && true)))))) = true
    rw [(lay_ints ins).1, (lay_ints us).1, (lay_ints ds).1]
    rfl
  have h2 : PyData.depthAll [.int lo, .int hi, .tuple (ins.map PyData.int), .int m, .tuple (us.map PyData.int), .tuple (ds.map PyData.int)] = 1 := by
    show max 0 (max 0 (max (PyData.depthAll (ins.map PyData.int) + 1) (max 0 (max (PyData.depthAll (us.map PyData.int) + 1) (max (PyData.depthAll (ds.map PyData.int) + 1) 0))))) = 1
    rw [(lay_ints ins).2, (lay_ints us).2, (lay_ints ds).2]
    rfl
  exact ⟨h1, shp_tup h1 h2 (by decide)⟩
section
variable {P : Program} {w : World} {K : PySem.W.Frag} {mg : Str → Option Value} {base : Heap}
/-! ### _law_seen -/
def spSeen (C : Addr) : Sp := fun vs H Q _ => ∃ (p : Addr) (lo hi : Int) (m : Nat) (ins us ds : List Int), vs = [.ref p] ∧ LotAt C H p lo hi ins m us ds ∧ ∀ q H', Same H H' → FormAt H' q lo hi ins m us ds → Q (.ref q) H'
abbrev s_seen : Stmt := top 41
abbrev N_seen : List Str := ["_law_lot"]
theorem sc_seen : FnScope N_seen ["_law_lot"] (defScope s_seen) := ⟨rfl, rfl, rfl, by decide +kernel, rfl, by decide +kernel, by decide +kernel⟩
theorem kp_seen {C : Addr} (F : At K mg "_law_seen" s_seen) (T : LotTxt K mg C) : Keeps CX0 P w K mg base "_law_seen" 1 ["_law_lot"] (spSeen C) := by
  refine keeps_of F sc_seen (fun _ _ _ _ _ _ us hl => match us, hl with | [_], _ => rfl) (fun vs H Q E h => ?_) (fun f cdv A outer s H vs Q E hr h => ?_)
  · obtain ⟨p, lo, hi, m, ins, us, ds, rfl, _⟩ := h
    rfl
  · obtain ⟨p, lo, hi, m, ins, us, ds, rfl, ⟨dx, a, b, c, hp, ha, hb, hc⟩, k⟩ := h
    refine ⟨_, (pss_one (ps_ret (pe_tup (pa_cons (pe_fld (pv 0) rfl) (pa_cons (pe_fld (pv 0) rfl) (pa_cons (pe_fld (pv 0) rfl) (pa_cons (pe_fld (pv 0) rfl) (pa_cons (pe_fld (pv 0) rfl) (pa_cons (pe_fld (pv 0) rfl) pa_nil))))))))), ?_⟩
    refine ⟨_, rfl, p, C, dx, _, _, rfl, hp, T.cl, T.n1, lf_low, _, rfl, p, C, dx, _, _, rfl, hp, T.cl, T.n2, lf_high, _, rfl, p, C, dx, _, _, rfl, hp, T.cl, T.n3, lf_inside, _, rfl, p, C, dx, _, _, rfl, hp, T.cl, T.n4, lf_modulus, _, rfl, p, C, dx, _, _, rfl, hp, T.cl, T.n5, lf_ups, _, rfl, p, C, dx, _, _, rfl, hp, T.cl, T.n6, lf_downs, ?_⟩
    refine ⟨(by show 6 ≤ sizeLine; decide), fun q hq => ?_⟩
    have s1 := same_new (o := .tup [V.int lo, V.int hi, V.ref a, V.int m, V.ref b, V.ref c]) (Same.refl H) hq
    exact k q _ s1 ⟨a, b, c, upd_same, s1 _ _ ha, s1 _ _ hb, s1 _ _ hc⟩
/-! ### _law_is_form -/
structure RowsOk (lo hi : Int) (ins : List Int) (m : Nat) (us ds : List Int) : Prop where
  i : ins.Pairwise (· < ·)
  ib : ∀ n ∈ ins, lo ≤ n ∧ n ≤ hi
  u : us.Pairwise (· < ·)
  ub : ∀ n ∈ us, 0 ≤ n ∧ n ≤ (m : Int) - 1
  d : ds.Pairwise (· < ·)
  db : ∀ n ∈ ds, 0 ≤ n ∧ n ≤ (m : Int) - 1
def spIsF (C : Addr) : Sp := fun vs H Q _ => ∃ (p q : Addr) (lo hi : Int) (m : Nat) (ins us ds : List Int), vs = [.ref p, .ref q] ∧ LotAt C H p lo hi ins m us ds ∧ FormAt H q lo hi ins m us ds ∧ RowsOk lo hi ins m us ds ∧ ∀ H', Same H H' → Q (.bl true) H'
abbrev s_isf : Stmt := top 42
abbrev N_isf : List Str := ["_law_lot", "_law_form_here"]
theorem sc_isf : FnScope N_isf ["_law_lot", "_law_form_here"] (defScope s_isf) := ⟨rfl, rfl, rfl, by decide +kernel, rfl, by decide +kernel, by decide +kernel⟩
theorem kp_isf {C : Addr} (F : At K mg "_law_is_form" s_isf) (T : LotTxt K mg C) (N : Nb mg) (Gw : Keeps CX0 P w K mg base "_law_whole" 1 ["_law_thing"] spWhole) (Gr : Keeps CX0 P w K mg base "_law_row_of" 2 ["_law_thing", "_law_low", "_law_high"] spRow) (Gs : Keeps CX0 P w K mg base "_law_seen" 1 ["_law_lot"] (spSeen C)) :
    Keeps CX0 P w K mg base "_law_is_form" 3 ["_law_lot", "_law_form_here"] (spIsF C) := by
  refine keeps_of F sc_isf (fun _ _ _ _ _ _ us hl => match us, hl with | [_, _], _ => rfl) (fun vs H Q E h => ?_) (fun f cdv A outer s H vs Q E hr h => ?_)
  · obtain ⟨p, q, lo, hi, m, ins, us, ds, rfl, _⟩ := h
    rfl
  · obtain ⟨p, q, lo, hi, m, ins, us, ds, rfl, la, fa, ok, k⟩ := h
    obtain ⟨dx, a, b, c, hp, ha, hb, hc⟩ := id la
    have h1 : Room 1 (A.deeper (envOfC "_law_is_form" (defScope s_isf) s.heap.objs.size f cdv)) := hr.mono (by decide)
    refine ⟨_, (pss_cons (ps_if (PW.pt (pw_or (pt_not (pt_val (pe_callB call_isi (by rfl) N.isinstance boot_isinstance (pa_cons (pv 0) (pa_cons (pe_glob (v := .ref C) (by rfl) T.mgC rfl) pa_nil))))) (pw_or (pt_not (pt_val (pe_k Gw h1 (by rfl) pass0 (pa_cons (pe_fld (pv 0) rfl) pa_nil)))) (pw_or (pt_not (pt_val (pe_k Gw h1 (by rfl) pass0 (pa_cons (pe_fld (pv 0) rfl) pa_nil)))) (pw_or1 (pt_not (pt_val (pe_k Gw h1 (by rfl) pass0 (pa_cons (pe_fld (pv 0) rfl) pa_nil))))))))) (pss_one (ps_ret pe_bl)) pss_nil)
        (pss_cons (ps_if (PW.pt (pw_or (pt_not (pt_val (pe_k Gr hr (by rfl) pass0 (pa_cons (pe_fld (pv 0) rfl) (pa_cons (pe_fld (pv 0) rfl) (pa_cons (pe_fld (pv 0) rfl) pa_nil)))))) (pw_or (pt_not (pt_val (pe_k Gr hr (by rfl) pass0 (pa_cons (pe_fld (pv 0) rfl) (pa_cons pe_int (pa_cons (pe_op op_sub (pe_fld (pv 0) rfl) pe_int) pa_nil)))))) (pw_or1 (pt_not (pt_val (pe_k Gr hr (by rfl) pass0 (pa_cons (pe_fld (pv 0) rfl) (pa_cons pe_int (pa_cons (pe_op op_sub (pe_fld (pv 0) rfl) pe_int) pa_nil)))))))))) (pss_one (ps_ret pe_bl)) pss_nil)
        (pss_one (ps_ret (pe_cmpR (op_eqD hr.units) (pe_k Gs h1 (by rfl) pass0 (pa_cons (pv 0) pa_nil)) (pv 1) (nomark _)))))), ?_⟩
    refine ⟨_, rfl, .ref p, .ref C, _, _, true, rfl, .own C, .base (.ins hp T.cl T.ha T.hn T.ht T.hm), T.isLot, _, rfl, iteF ?_⟩
    refine ⟨_, rfl, p, C, dx, _, _, rfl, hp, T.cl, T.n1, lf_low, _, rfl, _, rfl, iteF ?_⟩
    refine ⟨_, rfl, p, C, dx, _, _, rfl, hp, T.cl, T.n2, lf_high, _, rfl, _, rfl, iteF ?_⟩
    refine ⟨_, rfl, p, C, dx, _, _, rfl, hp, T.cl, T.n4, lf_modulus, _, rfl, _, rfl, iteF ?_⟩
    refine ⟨_, rfl, p, C, dx, _, _, rfl, hp, T.cl, T.n3, lf_inside, _, rfl, p, C, dx, _, _, rfl, hp, T.cl, T.n1, lf_low, _, rfl, p, C, dx, _, _, rfl, hp, T.cl, T.n2, lf_high, a, ins, lo, hi, rfl, ha, ok.i, ok.ib, _, rfl, iteF ?_⟩
    refine ⟨_, rfl, p, C, dx, _, _, rfl, hp, T.cl, T.n5, lf_ups, _, rfl, p, C, dx, _, _, rfl, hp, T.cl, T.n4, lf_modulus, _, _, rfl, rfl, b, us, 0, _, rfl, hb, ok.u, ok.ub, _, rfl, iteF ?_⟩
    refine ⟨_, rfl, p, C, dx, _, _, rfl, hp, T.cl, T.n6, lf_downs, _, rfl, p, C, dx, _, _, rfl, hp, T.cl, T.n4, lf_modulus, _, _, rfl, rfl, c, ds, 0, _, rfl, hc, ok.d, ok.db, _, rfl, iteF ?_⟩
    refine ⟨_, rfl, p, lo, hi, m, ins, us, ds, rfl, la, fun q2 H2 s2 f2 => ?_⟩
    obtain ⟨y1, y2⟩ := formD_lay lo hi ins m us ds
    refine ⟨_, rfl, _, _, f2.dp, (fa.same s2).dp, y2, y2, ?_⟩
    show Q (.bl (PyData.eqv _ _)) _
    rw [PySem.SeqAt.eqv_refl _ y1]
    exact k _ s2
/-! ### make_lot -/
def spMake (K : PySem.W.Frag) : Sp := fun vs H Q E => ∃ (T : Tl) (a b c : Addr) (ins us ds : List Int), vs = [.int T.lo, .int T.hi, .ref a, .int T.us.length, .ref b, .ref c] ∧ T.Near ∧ T.cs.length < 1000 ∧ -20000 ≤ T.lo ∧ T.hi ≤ 20000 ∧ Told T ins us ds ∧ (ins.Nodup ∧ us.Nodup ∧ ds.Nodup) ∧ (ins.length ≤ 1000 ∧ us.length ≤ 1000 ∧ ds.length ≤ 1000) ∧
  SqA H a (ins.map V.int) ∧ SqA H b (us.map V.int) ∧ SqA H c (ds.map V.int) ∧ LotEnd K T H Q E
abbrev s_make : Stmt := top 14
abbrev N_make : List Str := ["low", "high", "inside", "modulus", "ups", "downs"]
theorem sc_make : FnScope N_make ["low", "high", "inside", "modulus", "ups", "downs"] (defScope s_make) := ⟨rfl, rfl, rfl, by decide +kernel, rfl, by decide +kernel, by decide +kernel⟩
theorem kp_make (F : At K mg "make_lot" s_make) (mM : ∃ t, mg "MOST_MODULUS" = some (.int 10080 t)) (Gc : Keeps CX0 P w K mg base "_check_core" 2 ["low", "high"] spCore) (Gu : Keeps CX0 P w K mg base "_are_unlike_from" 3 ["numbers", "low", "high"] spUnl)
    (Gw : Keeps CX0 P w K mg base "is_whole_from" 2 ["thing", "low", "high"] spWholeF) (Gl_ : Keeps (CX P w) P w K mg base "_lot_of" 3 ["low", "high", "inside", "modulus", "ups", "downs"] (spLotOf K)) :
    Keeps (CX P w) P w K mg base "make_lot" 4 ["low", "high", "inside", "modulus", "ups", "downs"] (spMake K) := by
  refine keeps_ofX F sc_make (fun _ _ _ _ _ _ us hl => match us, hl with | [_, _, _, _, _, _], _ => rfl) (fun vs H Q E h => ?_) (fun f cdv A outer s H vs Q E hr h => ?_)
  · obtain ⟨T, a, b, c, ins, us, ds, rfl, _⟩ := h
    rfl
  · obtain ⟨T, a, b, c, ins, us, ds, rfl, near, hc9, b1, b2, told, nd, ln, ha, hb, hc, k⟩ := h
    obtain ⟨tM, mM⟩ := mM
    have hm := near.ok.pos
    have hm1 := near.m
    have hhi : T.hi = T.lo + T.cs.length - 1 := rfl
    refine ⟨_, (pss_cons (ps_expr (pe_k Gc (hr.mono (by decide)) (by rfl) pass0 (pa_cons (pv 0) (pa_cons (pv 1) pa_nil))))
        (pss_cons (ps_if (pt_not (pt_val (pe_k Gu hr (by rfl) pass0 (pa_cons (pv 2) (pa_cons (pv 0) (pa_cons (pv 1) pa_nil)))))) (pss_one ps_never) pss_nil)
        (pss_cons (ps_if (pt_not (pt_val (pe_k Gw (hr.mono (by decide)) (by rfl) pass0 (pa_cons (pv 3) (pa_cons pe_int (pa_cons (pe_glob (v := .int 10080) (by rfl) mM ⟨_, rfl⟩) pa_nil)))))) (pss_one ps_never) pss_nil)
        (pss_cons (ps_if (pt_not (pt_val (pe_k Gu hr (by rfl) pass0 (pa_cons (pv 4) (pa_cons pe_int (pa_cons (pe_op op_sub (pv 3) pe_int) pa_nil)))))) (pss_one ps_never) pss_nil)
        (pss_cons (ps_if (pt_not (pt_val (pe_k Gu hr (by rfl) pass0 (pa_cons (pv 5) (pa_cons pe_int (pa_cons (pe_op op_sub (pv 3) pe_int) pa_nil)))))) (pss_one ps_never) pss_nil)
        (pss_one (ps_ret (pe_k Gl_ hr (by rfl) (passes_call (takes_of rfl rfl rfl rfl) (fun _ _ _ _ h => h)) (pa_cons (pv 0) (pa_cons (pv 1) (pa_cons (pv 2) (pa_cons (pv 3) (pa_cons (pv 4) (pa_cons (pv 5) pa_nil)))))))))))))), ?_⟩
    refine ⟨_, rfl, _, rfl, T.lo, T.hi, rfl, b1, b2, by omega, ?_⟩
    refine ⟨_, rfl, _, rfl, _, rfl, a, ins, T.lo, T.hi, rfl, ha, nd.1, ln.1, told.i, fun H1 s1 => ⟨_, rfl, iteF ?_⟩⟩
    refine ⟨_, rfl, (T.us.length : Int), 1, 10080, rfl, ?_⟩
    rw [decide_eq_true (by omega : (1 : Int) ≤ (T.us.length : Int)), decide_eq_true (by omega : (T.us.length : Int) ≤ 10080)]
    refine ⟨_, rfl, iteF ?_⟩
    refine ⟨_, rfl, _, rfl, _, _, rfl, rfl, b, us, 0, _, rfl, hb.same s1, nd.2.1, ln.2.1, told.u, fun H2 s2 => ⟨_, rfl, iteF ?_⟩⟩
    refine ⟨_, rfl, _, rfl, _, _, rfl, rfl, c, ds, 0, _, rfl, (hc.same s1).same s2, nd.2.2, ln.2.2, told.d, fun H3 s3 => ⟨_, rfl, iteF ?_⟩⟩
    have s13 := s1.trans (s2.trans s3)
    exact ⟨_, rfl, _, rfl, _, rfl, _, rfl, _, rfl, _, rfl, T, a, b, c, ins, us, ds, rfl, near, hc9, told, ha.same s13, hb.same s13, hc.same s13, k.same s13⟩
end
end My
set_option Elab.async false
set_option linter.all false
set_option maxRecDepth 100000
set_option maxHeartbeats 8000000
namespace My
open PySem PySem.Spec PyProof.Rows L2
local macro_rules | `(tactic| walk_at "lv") => `(tactic| first | exact Or.inl rfl | exact Or.inr rfl)
theorem res_of {l : List Bool} {d : Nat} (hd : d ≤ l.length) : fil (fun k => l.getD k.toNat false) 0 d = resOf (cyc l) d := by
  unfold resOf
  refine fil_cong fun x h1 h2 => ?_
  have e : x = ((x.toNat : Nat) : Int) := by omega
  have q := cyc_lt (l := l) (k := x.toNat) (by omega)
  rw [← e] at q
  rw [q]
theorem irow_at {a z : Int} {n i : Nat} (h : (irow a n)[i]? = some z) : z = a + (i : Nat) ∧ i < n := by
  unfold irow at h
  rw [List.getElem?_map] at h
  rcases Nat.lt_or_ge i n with q | q
  · rw [List.getElem?_range q] at h
    exact ⟨(Option.some.inj h).symm, q⟩
  · rw [List.getElem?_eq_none (by rw [List.length_range]; exact q)] at h
    cases h
section
variable {P : Program} {w : World} {K : PySem.W.Frag} {mg : Str → Option Value} {base : Heap}
/-! ### _law_form -/
def FormEnd (T : Tl) (H : Hp) (Q : VK) : Prop :=
  (∀ q lo hi d H', IsForm T.has T.U T.D lo hi d → -20000 ≤ lo → hi ≤ 20000 → Same H H' → FormAt H' q lo hi (insOf T lo hi) d (resOf T.U d) (resOf T.D d) → Q (.ref q) H') ∧
  (∀ lo hi d H', IsForm T.has T.U T.D lo hi d → (lo < -20000 ∨ 20000 < hi) → Same H H' → Q .non H')
def spForm : Sp := fun vs H Q _ => ∃ (t c u d : Addr) (T : Tl), vs = [.ref t] ∧ TellAt H t T c u d ∧ T.Near ∧ T.us.length ≤ 100 ∧ T.cs.length ≤ 100 ∧ FormEnd T H Q
abbrev s_form : Stmt := top 40
/-- the names of the comprehension over d -/
def scD : Scope := { kind := ScopeKind.function, names := [(PySem.Str.ofString ".0", NameKind.local), (PySem.Str.ofString "_law_d", NameKind.cell), (PySem.Str.ofString "int", NameKind.globalImplicit), (PySem.Str.ofString "all", NameKind.globalImplicit), (PySem.Str.ofString "range", NameKind.globalImplicit), (PySem.Str.ofString "_law_downs", NameKind.cell), (PySem.Str.ofString "_law_modulus", NameKind.cell), (PySem.Str.ofString "_law_ups", NameKind.cell)], isGenerator := false, isCoroutine := false }
abbrev N_form : List Str := ["_law_telling", "_law_low", "_law_high", "_law_core", "_law_modulus", "_law_ups", "_law_downs", "_law_size", "_law_window", "_law_tops", "_law_bottoms", "_law_new_low", "_law_new_high", "_law_inside", "_law_d", "_law_k", "_law_n"]
theorem sc_form : FnScope N_form ["_law_telling"] (defScope s_form) := ⟨rfl, rfl, rfl, by decide +kernel, rfl, by decide +kernel, by decide +kernel⟩
theorem kp_form (F : At K mg "_law_form" s_form) (N : Nb mg) (Gh : Keeps CX0 P w K mg base "_law_has" 1 ["_law_telling", "_law_number"] spHas) : Keeps CX0 P w K mg base "_law_form" 2 ["_law_telling"] spForm := by
  refine keeps_of F sc_form (fun _ _ _ _ _ _ us hl => match us, hl with | [_], _ => rfl) (fun vs H Q E h => ?_) (fun f cdv A outer s H vs Q E hr h => ?_)
  · obtain ⟨t, c, u, d, T, rfl, _⟩ := h
    rfl
  · obtain ⟨t, c, u, d, T, rfl, a, near, um, cm, kk⟩ := h
    have ok := near.ok
    have hm := ok.pos
    have hlo := near.lo
    have hhi : T.hi = T.lo + T.cs.length - 1 := rfl
    obtain ⟨tl, dtl, tail⟩ : ∃ tl, PSs (cxOf CX0 P w K mg base N_form "_law_form" (defScope s_form) f cdv A outer s H E).nox ((defBody s_form).drop 8) tl ∧ ∀ (H1 : Hp) (lo hi : Int) (sz : Nat) (x8 x9 x10 : Option V), IsForm T.has T.U T.D lo hi sz → sz ≤ T.us.length → -(3 * 10 ^ 31) ≤ lo → lo ≤ 3 * 10 ^ 31 → -(3 * 10 ^ 31) ≤ hi → hi ≤ 3 * 10 ^ 31 → hi + 1 - lo < 1000 → Same H H1 →
        tl { nx := fun _ H' => Q .non H', rt := Q } [some (V.ref t), some (V.int T.lo), some (V.int T.hi), some (V.ref c), some (V.int T.us.length), some (V.ref u), some (V.ref d), some (V.int sz), x8, x9, x10, some (V.int lo), some (V.int hi), none, none, none, none] H1 := by
      refine ⟨_, (pss_cons (ps_if (PW.pt (pw_or (pt_cmpR op_lt (pv 11) (pe_un un_neg pe_int) (nomark _)) (pw_or1 (pt_cmpR op_gt (pv 12) pe_int (nomark _))))) (pss_one (ps_ret pe_non)) pss_nil)
        (pss_cons (ps_set (i := 13) sc_form.nd rfl (by walk_at "lv") (pe_callTy call_tuple_of (by rfl) N.tuple (by decide +kernel) (pa_cons (pe_lc (own := [("_law_n", 16)]) (g := gName 16) rfl sc_form.nd (pi_range2 (by rfl) N.range (pa_cons (pv 11) (pa_cons (pe_op op_add (pv 12) pe_int) pa_nil))) (blkOk_by (N := N_form) (sc := defScope s_form) (by decide +kernel)) (fun _ _ _ _ _ => (pg_name (i := 16) sc_form.nd rfl (by walk_at "lv"))) (fun _ _ _ _ _ => (pts_one (pt_val (pe_k Gh hr (by rfl) pass0 (pa_cons (pv 0) (pa_cons (pv 16) pa_nil)))))) (fun _ _ _ _ _ => (pv 16))) pa_nil)))
        (pss_one (ps_ret (pe_tup (pa_cons (pv 11) (pa_cons (pv 12) (pa_cons (pv 13) (pa_cons (pv 7) (pa_cons (pe_callTy call_tuple_of (by rfl) N.tuple (by decide +kernel) (pa_cons (pe_lc (own := [("_law_k", 15)]) (g := gName 15) rfl sc_form.nd (pi_range1 (by rfl) N.range (pa_cons (pv 7) pa_nil)) (blkOk_by (N := N_form) (sc := defScope s_form) (by decide +kernel)) (fun _ _ _ _ _ => (pg_name (i := 15) sc_form.nd rfl (by walk_at "lv"))) (fun _ _ _ _ _ => (pts_one (pt_val (pe_ix (r := rIxL K) ix_list (pv 5) (pv 15) (fun _ _ => rfl))))) (fun _ _ _ _ _ => (pv 15))) pa_nil)) (pa_cons (pe_callTy call_tuple_of (by rfl) N.tuple (by decide +kernel) (pa_cons (pe_lc (own := [("_law_k", 15)]) (g := gName 15) rfl sc_form.nd (pi_range1 (by rfl) N.range (pa_cons (pv 7) pa_nil)) (blkOk_by (N := N_form) (sc := defScope s_form) (by decide +kernel)) (fun _ _ _ _ _ => (pg_name (i := 15) sc_form.nd rfl (by walk_at "lv"))) (fun _ _ _ _ _ => (pts_one (pt_val (pe_ix (r := rIxL K) ix_list (pv 6) (pv 15) (fun _ _ => rfl))))) (fun _ _ _ _ _ => (pv 15))) pa_nil)) pa_nil))))))))))), ?_⟩
      intro H1 lo hi sz x8 x9 x10 fm hsz b1 b2 b3 b4 b5 s1
      refine ⟨_, rfl, _, rfl, _, _, rfl, rfl, _, rfl, ite2 (fun h1 => kk.2 lo hi sz H1 fm (.inl (of_decide_eq_true h1)) s1) (fun h1 => ?_)⟩
      have h1 : ¬ lo < -20000 := fun z => h1 (decide_eq_true z)
      refine ⟨_, rfl, _, _, rfl, rfl, _, rfl, ite2 (fun h2 => kk.2 lo hi sz H1 fm (.inr (of_decide_eq_true h2)) s1) (fun h2 => ?_)⟩
      have h2 : ¬ 20000 < hi := fun z => h2 (decide_eq_true z)
      have hz := fm.size
      refine ⟨_, rfl, _, rfl, _, _, rfl, rfl, _, _, rfl, ⟨by omega, by omega, by omega, by omega⟩, fun D hD => ?_⟩
      refine lc_itF (G := fun _ => True) walk_range hD (fun i => (fil T.has lo i).map V.int) rfl (fun i hi' => small1000 (by rw [List.length_map]; exact Nat.le_trans (fil_len _ _ _) (by omega))) (fun _ _ => trivial) ?_ ?_ ?_ ?_ ?_
      · rintro i x H2 H3 hi' e s2 ⟨rfl, rfl⟩
        refine ⟨rfl, _, rfl, _, rfl, t, c, u, d, T, _, rfl, (a.same s1).same s2, ok, _, rfl, ?_⟩
        cases hb' : T.has (lo + (i : Int)) with
        | false =>
          refine iteF ⟨e, s2, ?_⟩
          rw [fil_neg (by rw [hb']; exact Bool.false_ne_true)]
        | true =>
          refine iteT ⟨_, rfl, e, s2, ?_⟩
          rw [fil_pos hb', List.map_append]
          rfl
      · exact fun x H' Q Q' h q => h _ _ q
      · rintro σ2 H2 Q1 Q2 h ⟨v, hv, w, hw, t2, c2, u2, d2, T2, n2, e1, e2, e3, k, ek, q⟩
        exact ⟨v, hv, w, hw, t2, c2, u2, d2, T2, n2, e1, e2, e3, k, ek, h _ _ q⟩
      · rintro σ2 H2 Q1 Q2 h ⟨v, hv, q⟩
        exact ⟨v, hv, h _ _ q⟩
      · intro H2 e2 s2
        refine ⟨D, _, rfl, .inl ⟨SqL.of e2, fun l hl => ?_⟩⟩
        have s3 := same_new (o := .tup ((fil T.has lo (hi + 1 - lo).toNat).map V.int)) s2 hl
        have s13 := s1.trans s3
        refine ⟨_, rfl, _, rfl, _, rfl, _, rfl, ?_⟩
        dsimp only [tCons, tCB]
        refine lc_res (bs := T.us) (a := u) rfl hsz (by omega) (s13 _ _ a.l.us) (fun _ => rfl) (fun _ => rfl) (fun _ => rfl) fun D2 H4 s4 n4 e4 => ?_
        refine ⟨D2, _, rfl, .inl ⟨SqL.of e4, fun l2 hl2 => ?_⟩⟩
        have s5 := same_new (o := .tup ((fil (fun k => T.us.getD k.toNat false) 0 sz).map V.int)) s4 hl2
        refine lc_res (bs := T.ds) (a := d) rfl (by rw [ok.len]; exact hsz) (by omega) (s5 _ _ (s13 _ _ a.l.ds)) (fun _ => rfl) (fun _ => rfl) (fun _ => rfl) fun D3 H6 s6 n6 e6 => ?_
        refine ⟨D3, _, rfl, .inl ⟨SqL.of e6, fun l3 hl3 => ?_⟩⟩
        have s7 := same_new (o := .tup ((fil (fun k => T.ds.getD k.toNat false) 0 sz).map V.int)) s6 hl3
        refine ⟨(by show 6 ≤ sizeLine; decide), fun q hq => ?_⟩
        have s8 := same_new (o := .tup [V.int lo, V.int hi, V.ref l, V.int sz, V.ref l2, V.ref l3]) (Same.refl _) hq
        refine kk.1 q lo hi sz _ fm (by omega) (by omega) ((s13.trans s5).trans (s7.trans s8)) ⟨l, l2, l3, upd_same, ?_, ?_, ?_⟩
        · refine s8 _ _ (s7 _ _ (s5 _ _ ?_))
          exact upd_same
        · refine s8 _ _ (s7 _ _ ?_)
          rw [res_of hsz]
          exact upd_same
        · refine s8 _ _ ?_
          rw [res_of (by rw [ok.len]; exact hsz)]
          exact upd_same
    refine ⟨_, (pss_cons (ps_asg (pv 0) (pg_unl (by rfl) (pgs_cons (pg_name (i := 1) sc_form.nd rfl (by walk_at "lv")) (pgs_cons (pg_name (i := 2) sc_form.nd rfl (by walk_at "lv")) (pgs_cons (pg_name (i := 3) sc_form.nd rfl (by walk_at "lv")) (pgs_cons (pg_name (i := 4) sc_form.nd rfl (by walk_at "lv")) (pgs_cons (pg_name (i := 5) sc_form.nd rfl (by walk_at "lv")) (pgs_cons (pg_name (i := 6) sc_form.nd rfl (by walk_at "lv")) pgs_nil))))))))
        (pss_cons (ps_set (i := 7) sc_form.nd rfl (by walk_at "lv") (pe_ix ix_list (pe_lc (own := [("_law_d", 14)]) (g := gName 14) (tt := tAnd (tTest (tOp rEq (tOp (rI (fun _ j => 0 < j) fun i j => V.int (i % j)) (tCB (fun xs H Q => (∃ i, xs = [V.int i] ∧ Q (V.int i) H) ∨ ∃ b, xs = [V.bl b] ∧ Q (V.int (if b then 1 else 0)) H) (tCons (tVar 4) tNil)) (tVar 14)) (tC (.int 0)))) (tB (tCB (rAll K) (tCons (tLc (iRng1 (tCons (tVar 4) tNil)) (gName 15) tYes (tAndV (tOp rEq (tOp (rIxL K) (tVar 5) (tVar 15)) (tOp (rIxL K) (tVar 5) (tOp (rI (fun _ j => 0 < j) fun i j => V.int (i % j)) (tCB (fun xs H Q => (∃ i, xs = [V.int i] ∧ Q (V.int i) H) ∨ ∃ b, xs = [V.bl b] ∧ Q (V.int (if b then 1 else 0)) H) (tCons (tVar 15) tNil)) (tVar 14)))) (tOp rEq (tOp (rIxL K) (tVar 6) (tVar 15)) (tOp (rIxL K) (tVar 6) (tOp (rI (fun _ j => 0 < j) fun i j => V.int (i % j)) (tCB (fun xs H Q => (∃ i, xs = [V.int i] ∧ Q (V.int i) H) ∨ ∃ b, xs = [V.bl b] ∧ Q (V.int (if b then 1 else 0)) H) (tCons (tVar 15) tNil)) (tVar 14))))) [15]) tNil)))) rfl sc_form.nd (pi_range2 (by rfl) N.range (pa_cons pe_int (pa_cons (pe_op op_add (pv 4) pe_int) pa_nil))) (blkOk_by (N := N_form) (sc := defScope s_form) (by decide +kernel)) (fun _ _ _ _ _ => (pg_name (i := 14) sc_form.nd rfl (by walk_at "lv"))) (fun _ _ _ _ _ => (pts_one (PW.pt (pw_and (pt_cmpR op_eq (pe_op op_mod (pe_callTy call_int1 (by rfl) N.int boot_int (pa_cons (pv 4) pa_nil)) (pv 14)) pe_int (nomark _)) (pw_and1 (pt_val (pe_callB (cr_all rfl) (by rfl) N.all (by decide +kernel) (pa_cons (pe_lc (own := [("_law_k", 15)]) (g := gName 15) (tt := tYes) rfl sc_form.nd (pi_range1 (by rfl) N.range (pa_cons (pv 4) pa_nil)) (blkOk_by (N := N_form) (sc := scD) (by decide +kernel)) (fun _ _ _ _ _ => (pg_name (i := 15) sc_form.nd rfl (by walk_at "lv"))) (fun _ _ _ _ _ => pts_nil) (fun _ _ _ _ _ => (pe_and (pe_cmpR op_eq (pe_ix (r := rIxL K) ix_list (pv 5) (pv 15) (fun _ _ => rfl)) (pe_ix (r := rIxL K) ix_list (pv 5) (pe_op op_mod (pe_callTy call_int1 (by rfl) N.int boot_int (pa_cons (pv 15) pa_nil)) (pv 14)) (fun _ _ => rfl)) (nomark _)) (pe_one (pe_cmpR op_eq (pe_ix (r := rIxL K) ix_list (pv 6) (pv 15) (fun _ _ => rfl)) (pe_ix (r := rIxL K) ix_list (pv 6) (pe_op op_mod (pe_callTy call_int1 (by rfl) N.int boot_int (pa_cons (pv 15) pa_nil)) (pv 14)) (fun _ _ => rfl)) (nomark _)))))) pa_nil)))))))) (fun _ _ _ _ _ => (pv 14))) pe_int (fun _ _ => rfl)))
        (pss_cons (ps_setLc (i := 8) (own := [("_law_n", 16)]) (g := gName 16) (tt := tYes) rfl sc_form.nd rfl rfl (sw_true rfl rfl rfl (by decide +kernel)) (pi_rangeL (by rfl) N.range (pa_cons (pe_op op_sub (pv 1) (pv 4)) (pa_cons (pe_op op_add (pe_op op_add (pv 2) (pv 4)) pe_int) pa_nil))) (blkOk_by (N := N_form) (sc := defScope s_form) (by decide +kernel)) (fun _ _ _ _ _ => (pg_name (i := 16) sc_form.nd rfl (by walk_at "lv"))) (fun _ _ _ _ _ => pts_nil) (fun _ _ _ _ _ => (pv 16)))
        (pss_cons (ps_setLc (i := 9) (own := [("_law_n", 16)]) (g := gName 16) rfl sc_form.nd rfl rfl (sw_true rfl rfl rfl (by decide +kernel)) (pi_list (pv 8)) (blkOk_by (N := N_form) (sc := defScope s_form) (by decide +kernel)) (fun _ _ _ _ _ => (pg_name (i := 16) sc_form.nd rfl (by walk_at "lv"))) (fun _ _ _ _ _ => (pts_one (pt_cmpR op_ne (pe_k Gh hr (by rfl) pass0 (pa_cons (pv 0) (pa_cons (pv 16) pa_nil))) (pe_ix (r := rIxL K) ix_list (pv 5) (pe_op op_mod (pe_callTy call_int1 (by rfl) N.int boot_int (pa_cons (pv 16) pa_nil)) (pv 4)) (fun _ _ => rfl)) (nomark _)))) (fun _ _ _ _ _ => (pv 16)))
        (pss_cons (ps_setLc (i := 10) (own := [("_law_n", 16)]) (g := gName 16) rfl sc_form.nd rfl rfl (sw_true rfl rfl rfl (by decide +kernel)) (pi_list (pv 8)) (blkOk_by (N := N_form) (sc := defScope s_form) (by decide +kernel)) (fun _ _ _ _ _ => (pg_name (i := 16) sc_form.nd rfl (by walk_at "lv"))) (fun _ _ _ _ _ => (pts_one (pt_cmpR op_ne (pe_k Gh hr (by rfl) pass0 (pa_cons (pv 0) (pa_cons (pv 16) pa_nil))) (pe_ix (r := rIxL K) ix_list (pv 6) (pe_op op_mod (pe_callTy call_int1 (by rfl) N.int boot_int (pa_cons (pv 16) pa_nil)) (pv 4)) (fun _ _ => rfl)) (nomark _)))) (fun _ _ _ _ _ => (pv 16)))
        (pss_cons (ps_set (i := 11) sc_form.nd rfl (by walk_at "lv") pe_int)
        (pss_cons (ps_set (i := 12) sc_form.nd rfl (by walk_at "lv") (pe_un un_neg pe_int))
        (pss_cons (ps_if (pt_truth (pv 9) (by intro _; rfl)) (pss_cons (ps_set (i := 12) sc_form.nd rfl (by walk_at "lv") (pe_ix ix_list (pv 9) (pe_un un_neg pe_int) (fun _ _ => rfl))) (pss_one (ps_set (i := 11) sc_form.nd rfl (by walk_at "lv") (pe_callB (call_min2 rfl) (by rfl) N.min (by decide +kernel) (pa_cons (pe_op op_add (pv 12) pe_int) (pa_cons (pe_ix ix_list (pv 10) pe_int (fun _ _ => rfl)) pa_nil)))))) pss_nil)
        dtl)))))))), ?_⟩
    refine ⟨_, rfl, t, _, rfl, SqL.of a.t, rfl, _, _, rfl, _, _, rfl, _, _, rfl, _, _, rfl, _, _, rfl, _, _, rfl, rfl, ?_⟩
    obtain ⟨sz, z0, z1, z2⟩ := size_first ok
    refine ⟨_, rfl, _, _, rfl, rfl, _, _, rfl, ⟨by omega, by omega, by omega, by omega⟩, fun D hD => ?_⟩
    rw [show ((T.us.length : Int) + 1 - 1).toNat = T.us.length by omega]
    have sD : Same H (upd H D (.lst [])) := same_new (Same.refl H) hD
    refine lc_range (lo := 1) (n := T.us.length) (fun i H2 => H2 D = some (.lst ((fil (okD T) 1 i).map V.int)) ∧ Same H H2) ⟨upd_same, sD⟩ ?_ ?_
    · rintro i H2 hi' ⟨e, s2⟩
      have hd0 : (0 : Int) < 1 + (i : Int) := by omega
      have sm : ((fil (okD T) 1 i).map V.int).length < sizeLine := small1000 (by rw [List.length_map]; exact Nat.le_trans (fil_len _ _ _) (by omega))
      have no : ∀ H3, H3 D = some (.lst ((fil (okD T) 1 i).map V.int)) → Same H H3 → okD T (1 + (i : Int)) = false → H3 D = some (.lst ((fil (okD T) 1 (i + 1)).map V.int)) ∧ Same H H3 := fun H3 e3 s3 z => ⟨by rw [fil_neg (by rw [z]; exact Bool.false_ne_true)]; exact e3, s3⟩
      refine ⟨rfl, _, rfl, .inl ⟨_, rfl, _, rfl, _, _, rfl, rfl, hd0, rfl, _, rfl, ?_⟩⟩
      rw [vdec]
      cases hc1 : decide ((T.us.length : Int) % (1 + (i : Int)) = 0) with
      | false =>
        refine iteF (iteF (no H2 e s2 ?_))
        unfold okD
        rw [hc1]
        rfl
      | true =>
        refine iteT ⟨_, rfl, _, rfl, by omega, by omega, fun D2 hD2 => ?_⟩
        rw [show ((T.us.length : Int)).toNat = T.us.length by omega]
        have sD2 : Same H2 (upd H2 D2 (.lst [])) := same_new (Same.refl H2) hD2
        refine lc_range (lo := 0) (n := T.us.length) (fun j H4 => H4 D2 = some (.lst (((List.range j).map fun k => decide (T.us.getD k false = okD.cycD T.us k (1 + (i : Int))) && decide (T.ds.getD k false = okD.cycD T.ds k (1 + (i : Int)))).map V.bl)) ∧ Same H2 H4) ⟨upd_same, sD2⟩ ?_ ?_
        · rintro j H4 hj ⟨e4, s4⟩
          have s14 := s2.trans s4
          have m0 := Int.emod_nonneg (j : Int) (by omega : 1 + (i : Int) ≠ 0)
          have m1 : (j : Int) % (1 + (i : Int)) ≤ (j : Int) := by
            rcases Int.lt_or_le (j : Int) (1 + (i : Int)) with q | q
            · rw [Int.emod_eq_of_lt (by omega) q]
              exact Int.le_refl _
            · have := Int.emod_lt_of_pos (j : Int) hd0
              omega
          have g1 : ∀ l : List Bool, l.length = T.us.length → atI (l.map V.bl) (0 + (j : Int)) = some (.bl (l.getD j false)) := fun l hl => by
            rw [blI_get (by omega) (by omega), show (0 + (j : Int)).toNat = j by omega]
          have g2 : ∀ l : List Bool, l.length = T.us.length → atI (l.map V.bl) ((0 + (j : Int)) % (1 + (i : Int))) = some (.bl (okD.cycD l j (1 + (i : Int)))) := fun l hl => by
            rw [Int.zero_add, blI_get m0 (by omega)]
            rfl
          refine ⟨rfl, _, rfl, _, rfl, u, _, _, _, rfl, rfl, SqL.of (s14 _ _ a.l.us), g1 _ rfl, _, rfl, _, rfl, .inl ⟨_, rfl, _, rfl, _, _, rfl, rfl, hd0, u, _, _, _, rfl, rfl, SqL.of (s14 _ _ a.l.us), g2 _ rfl, rfl, _, rfl, ?_⟩⟩
          rw [vdecB]
          have ext : ∀ b : Bool, (decide (T.us.getD j false = okD.cycD T.us j (1 + (i : Int))) && decide (T.ds.getD j false = okD.cycD T.ds j (1 + (i : Int)))) = b → ((List.range (j + 1)).map fun k => decide (T.us.getD k false = okD.cycD T.us k (1 + (i : Int))) && decide (T.ds.getD k false = okD.cycD T.ds k (1 + (i : Int)))).map V.bl = ((List.range j).map fun k => decide (T.us.getD k false = okD.cycD T.us k (1 + (i : Int))) && decide (T.ds.getD k false = okD.cycD T.ds k (1 + (i : Int)))).map V.bl ++ [V.bl b] := fun b hb => by
            rw [List.range_succ, List.map_append, List.map_append, ← hb]
            rfl
          have fin : ∀ b : Bool, (decide (T.us.getD j false = okD.cycD T.us j (1 + (i : Int))) && decide (T.ds.getD j false = okD.cycD T.ds j (1 + (i : Int)))) = b → ∃ acc, H4 D2 = some (.lst acc) ∧ acc.length < sizeLine ∧ (upd H4 D2 (.lst (acc ++ [V.bl b])) D2 = some (.lst (((List.range (j + 1)).map fun k => decide (T.us.getD k false = okD.cycD T.us k (1 + (i : Int))) && decide (T.ds.getD k false = okD.cycD T.ds k (1 + (i : Int)))).map V.bl)) ∧ Same H2 (upd H4 D2 (.lst (acc ++ [V.bl b])))) := fun b hb => ⟨_, e4, small1000 (by rw [List.length_map, List.length_map, List.length_range]; omega), by rw [ext b hb]; exact upd_same, fun o z hz => by rw [upd_ne (ne_of_none hz hD2)]; exact s4 o z hz⟩
          cases q1 : decide (T.us.getD j false = okD.cycD T.us j (1 + (i : Int))) with
          | false => exact iteF (fin false (by rw [q1]; rfl))
          | true =>
            refine iteT ⟨_, rfl, _, rfl, d, _, _, _, rfl, rfl, SqL.of (s14 _ _ a.l.ds), g1 _ ok.len, _, rfl, _, rfl, .inl ⟨_, rfl, _, rfl, _, _, rfl, rfl, hd0, d, _, _, _, rfl, rfl, SqL.of (s14 _ _ a.l.ds), g2 _ ok.len, rfl, ?_⟩⟩
            refine fin _ ?_
            rw [vdecB, q1]
            rfl
        · rintro H4 ⟨e4, s4⟩
          refine ⟨D2, _, rfl, SqL.of e4, _, rfl, ?_⟩
          have ex : okD T (1 + (i : Int)) = ((List.range T.us.length).map fun k => decide (T.us.getD k false = okD.cycD T.us k (1 + (i : Int))) && decide (T.ds.getD k false = okD.cycD T.ds k (1 + (i : Int)))).all id := by
            show (_ && _) = _
            rw [hc1]
            rfl
          cases ha2 : ((List.range T.us.length).map fun k => decide (T.us.getD k false = okD.cycD T.us k (1 + (i : Int))) && decide (T.ds.getD k false = okD.cycD T.ds k (1 + (i : Int)))).all id with
          | false => exact iteF (no H4 (s4 _ _ e) (s2.trans s4) (by rw [ex, ha2]))
          | true =>
            refine iteT ⟨_, rfl, _, s4 _ _ e, sm, ?_, fun b o z => ?_⟩
            · rw [fil_pos (by rw [ex, ha2]), List.map_append]
              exact upd_same
            · rw [upd_ne (ne_of_none z hD)]
              exact (s2.trans s4) b o z
    · rintro H1 ⟨e1, s1⟩
      have g0 : atI ((fil (okD T) 1 T.us.length).map V.int) 0 = some (.int (sz : Nat)) := atI_nat (j := 0) (by rw [List.getElem?_map, z0]; rfl)
      refine ⟨D, _, _, _, rfl, rfl, SqL.of e1, g0, ?_⟩
      -- the window
      refine ⟨_, rfl, _, rfl, _, _, rfl, rfl, _, rfl, _, rfl, _, _, rfl, rfl, _, _, rfl, rfl, _, _, rfl, fun D8 hD8 => ?_⟩
      rw [show (T.hi + (T.us.length : Int) + 1 - (T.lo - (T.us.length : Int))).toNat = T.cs.length + T.us.length + T.us.length by omega]
      refine lc_itF (G := fun _ => True) walk_range hD8 (fun i => (irow (T.lo - T.us.length) i).map V.int) rfl (fun i hi' => small1000 (by rw [List.length_map]; unfold irow; rw [List.length_map, List.length_range]; omega)) (fun _ _ => trivial) ?_ ?_ ?_ ?_ ?_
      · rintro i x H2 H3 hi' e s2 ⟨rfl, rfl⟩
        refine ⟨rfl, _, rfl, e, s2, ?_⟩
        rw [irow_succ, List.map_append]
        rfl
      · exact fun x H' Q Q' h q => h _ _ q
      · exact fun σ2 H2 Q1 Q2 h q => h _ _ q
      · rintro σ2 H2 Q1 Q2 h ⟨v, hv, q⟩
        exact ⟨v, hv, h _ _ q⟩
      intro H8 e8 s8
      have len8 : ((irow (T.lo - T.us.length) (T.cs.length + T.us.length + T.us.length)).map V.int).length = T.cs.length + T.us.length + T.us.length := by
        rw [List.length_map]; unfold irow; rw [List.length_map, List.length_range]
      have s08 := s1.trans s8
      have hm' : (0 : Int) < (T.us.length : Int) := by omega
      -- tops
      refine ⟨_, rfl, D8, rfl, ⟨_, SqL.of e8⟩, fun D9 hD9 => ?_⟩
      refine lc_it (walk_list2 (SqL.of e8)) (fun i H2 => H2 D9 = some (.lst ((fil (fun n => !decide (T.has n = T.U n)) (T.lo - T.us.length) i).map V.int)) ∧ Same H8 H2) ⟨upd_same, same_new (Same.refl H8) hD9⟩ (fun i H2 _ h => h.2) ?_ ?_
      · rintro i x H2 H3 hi' ⟨e, s2⟩ ⟨rfl, e4⟩
        obtain ⟨n, hn, rfl⟩ := int_at e4
        obtain ⟨rfl, hiN⟩ := irow_at hn
        have sA := s08.trans s2
        refine ⟨rfl, _, rfl, _, rfl, t, c, u, d, T, _, rfl, a.same sA, ok, _, rfl, _, rfl, .inl ⟨_, rfl, _, rfl, _, _, rfl, rfl, hm', u, _, _, _, rfl, rfl, SqL.of (sA _ _ a.l.us), cyc_get (n := T.lo - T.us.length + (i : Int)) rfl hm, rfl, _, rfl, ?_⟩⟩
        rw [vdecB]
        cases hb : (!decide (T.has (T.lo - T.us.length + (i : Int)) = T.U (T.lo - T.us.length + (i : Int)))) with
        | false =>
          rw [show (!decide (T.has (T.lo - T.us.length + (i : Int)) = cyc T.us (T.lo - T.us.length + (i : Int)))) = false from hb]
          refine iteF ⟨?_, s2⟩
          rw [fil_neg (by rw [hb]; exact Bool.false_ne_true)]
          exact e
        | true =>
          rw [show (!decide (T.has (T.lo - T.us.length + (i : Int)) = cyc T.us (T.lo - T.us.length + (i : Int)))) = true from hb]
          refine iteT ⟨_, rfl, _, e, small1000 (by rw [List.length_map]; exact Nat.le_trans (fil_len _ _ _) (by omega)), ?_, fun b o z => ?_⟩
          · rw [fil_pos hb, List.map_append]
            exact upd_same
          · rw [upd_ne (ne_of_none z hD9)]
            exact s2 b o z
      rintro H9 ⟨e9, s9⟩
      rw [len8] at e9
      have e8' := s9 _ _ e8
      have s09 := s08.trans s9
      refine ⟨_, rfl, D8, rfl, ⟨_, SqL.of e8'⟩, fun D10 hD10 => ?_⟩
      refine lc_it (walk_list2 (SqL.of e8')) (fun i H2 => H2 D10 = some (.lst ((fil (fun n => !decide (T.has n = T.D n)) (T.lo - T.us.length) i).map V.int)) ∧ Same H9 H2) ⟨upd_same, same_new (Same.refl H9) hD10⟩ (fun i H2 _ h => h.2) ?_ ?_
      · rintro i x H2 H3 hi' ⟨e, s2⟩ ⟨rfl, e4⟩
        obtain ⟨n, hn, rfl⟩ := int_at e4
        obtain ⟨rfl, hiN⟩ := irow_at hn
        have sA := s09.trans s2
        refine ⟨rfl, _, rfl, _, rfl, t, c, u, d, T, _, rfl, a.same sA, ok, _, rfl, _, rfl, .inl ⟨_, rfl, _, rfl, _, _, rfl, rfl, hm', d, _, _, _, rfl, rfl, SqL.of (sA _ _ a.l.ds), cyc_get (n := T.lo - T.us.length + (i : Int)) ok.len hm, rfl, _, rfl, ?_⟩⟩
        rw [vdecB]
        cases hb : (!decide (T.has (T.lo - T.us.length + (i : Int)) = T.D (T.lo - T.us.length + (i : Int)))) with
        | false =>
          rw [show (!decide (T.has (T.lo - T.us.length + (i : Int)) = cyc T.ds (T.lo - T.us.length + (i : Int)))) = false from hb]
          refine iteF ⟨?_, s2⟩
          rw [fil_neg (by rw [hb]; exact Bool.false_ne_true)]
          exact e
        | true =>
          rw [show (!decide (T.has (T.lo - T.us.length + (i : Int)) = cyc T.ds (T.lo - T.us.length + (i : Int)))) = true from hb]
          refine iteT ⟨_, rfl, _, e, small1000 (by rw [List.length_map]; exact Nat.le_trans (fil_len _ _ _) (by omega)), ?_, fun b o z => ?_⟩
          · rw [fil_pos hb, List.map_append]
            exact upd_same
          · rw [upd_ne (ne_of_none z hD10)]
            exact s2 b o z
      rintro H10 ⟨e10, s10⟩
      rw [len8] at e10
      have e9' := s10 _ _ e9
      have s010 := s09.trans s10
      refine ⟨_, rfl, _, rfl, _, .inl ⟨_, SqL.of e9', rfl⟩, ?_⟩
      by_cases hnil : fil (fun n => !decide (T.has n = T.U n)) (T.lo - T.us.length) (T.cs.length + T.us.length + T.us.length) = []
      · rw [hnil]
        refine iteF ?_
        exact tail H10 0 (-1) sz _ _ _ (form_none ok z2 (tops_nil ok hnil)) z1 (by omega) (by omega) (by omega) (by omega) (by omega) s010
      · obtain ⟨r, v, hv, _⟩ := fil_last hnil
        obtain ⟨v1, v2, v3, v4⟩ := tops_last ok hv
        obtain ⟨b, b0, b1, b2, b3⟩ := bottoms_first ok ⟨v, v1⟩
        rw [hv]
        have ne : (!((r ++ [v]).map V.int).isEmpty) = true := by cases r <;> rfl
        rw [ne]
        rw [hv, List.map_append] at e9'
        refine iteT ⟨_, rfl, _, rfl, D9, _, _, _, rfl, rfl, SqL.of e9', atI_last _ _, ?_⟩
        refine ⟨_, rfl, _, _, rfl, rfl, _, rfl, D10, _, _, _, rfl, rfl, SqL.of e10, atI_nat (j := 0) (by rw [List.getElem?_map, b0]; rfl), _, _, rfl, ?_⟩
        have fm := form_some z2 v1 v2 b1 b2
        have el : (if v + 1 < b then v + 1 else b) = (if b < v + 1 then b else v + 1) := by split <;> split <;> omega
        rw [el] at fm
        refine tail H10 (if b < v + 1 then b else v + 1) v sz _ _ _ fm z1 ?_ ?_ (by omega) (by omega) ?_ s010
        · split <;> omega
        · split <;> omega
        · split <;> omega
end
end My
set_option Elab.async false
set_option linter.all false
set_option maxRecDepth 100000
set_option maxHeartbeats 8000000
namespace My
open PySem PySem.Spec PyProof.Rows L2
local macro_rules | `(tactic| walk_at "lv") => `(tactic| first | exact Or.inl rfl | exact Or.inr rfl)
section
variable {P : Program} {w : World} {K : PySem.W.Frag} {mg : Str → Option Value} {base : Heap}
/-- [draw(2) == 1 for k in range(m)] -/
theorem lc_draw {σ : L2.St} {H : Hp} {Q : VK} {i j m : Nat} {p c : Addr} (hj : σ[j]? = some (some (.int (m : Int)))) (hm2 : m ≤ 1000) (hh : HandC H p c) (hp : ∀ v, ((wipe σ [i]).set i (some v))[0]? = some (some (.ref p)))
    (hw : ∀ v, wipe ((wipe σ [i]).set i (some v)) [i] = wipe σ [i])
    (k : ∀ D (bs : List Bool) H', bs.length = m → H D = none → H' D = some (.lst (bs.map V.bl)) → HandC H' p c → But p H H' → Q (.ref D) H') :
    tLc (iRng1 (tCons (tVar j) tNil)) (gName i) tYes (tOp rEq (tCall spDraw [] E0 (tCons (tVar 0) (tCons (tC (.int 2)) tNil))) (tC (.int 1))) [i] σ H Q := by
  refine ⟨_, hj, _, rfl, by omega, by omega, fun D hD => ?_⟩
  rw [show ((m : Int)).toNat = m by omega]
  have hn := hh.ne hD
  refine lc_range (lo := 0) (n := m) (fun x H2 => ∃ bs : List Bool, bs.length = x ∧ H2 D = some (.lst (bs.map V.bl)) ∧ HandC H2 p c ∧ But p H H2) ⟨[], rfl, upd_same, hh.upd hn.1 hn.2, fun b o hb e => by rw [upd_ne (ne_of_none e hD)]; exact e⟩ ?_ ?_
  · rintro x H2 hx ⟨bs, hl, e, h2, b2⟩
    refine ⟨hw _, _, hp _, p, c, 2, rfl, h2, ⟨by decide, by decide⟩, fun r H3 r0 r1 h3 b3 => ⟨rfl, _, b3 _ _ hn.1.symm e, small1000 (by rw [List.length_map]; omega), bs ++ [decide (V.int r = V.int 1)], by rw [List.length_append, hl]; rfl, ?_, h3.upd hn.1 hn.2, fun b o hb z => ?_⟩⟩
    · rw [List.map_append]
      exact upd_same
    · rw [upd_ne (ne_of_none z hD)]
      exact b3 _ _ hb (b2 _ _ hb z)
  · rintro H2 ⟨bs, hl, e, h2, b2⟩
    exact k D bs H2 hl hD e h2 b2
theorem HandC.neb {H : Hp} {p c u : Addr} {bs : List Bool} (h : HandC H p c) (e : H u = some (.lst (bs.map V.bl))) : u ≠ p := by
  obtain ⟨cs, i, r, t, e1, _, _⟩ := h
  exact ne_of e e1 (by
    intro z
    cases bs with
    | nil => cases z
    | cons b r => cases z)
theorem sizes_at {r : Int} (h0 : 0 ≤ r) (h1 : r < 12) : ∃ m : Nat, atI [V.int 1, V.int 2, V.int 3, V.int 4, V.int 6, V.int 1, V.int 5, V.int 2, V.int 8, V.int 9, V.int 12, V.int 7] r = some (.int (m : Int)) ∧ 0 < m ∧ m ≤ 12 := by
  have : r = 0 ∨ r = 1 ∨ r = 2 ∨ r = 3 ∨ r = 4 ∨ r = 5 ∨ r = 6 ∨ r = 7 ∨ r = 8 ∨ r = 9 ∨ r = 10 ∨ r = 11 := by omega
  rcases this with rfl | rfl | rfl | rfl | rfl | rfl | rfl | rfl | rfl | rfl | rfl | rfl
  · exact ⟨1, rfl, by decide, by decide⟩
  · exact ⟨2, rfl, by decide, by decide⟩
  · exact ⟨3, rfl, by decide, by decide⟩
  · exact ⟨4, rfl, by decide, by decide⟩
  · exact ⟨6, rfl, by decide, by decide⟩
  · exact ⟨1, rfl, by decide, by decide⟩
  · exact ⟨5, rfl, by decide, by decide⟩
  · exact ⟨2, rfl, by decide, by decide⟩
  · exact ⟨8, rfl, by decide, by decide⟩
  · exact ⟨9, rfl, by decide, by decide⟩
  · exact ⟨12, rfl, by decide, by decide⟩
  · exact ⟨7, rfl, by decide, by decide⟩
theorem far_at {r m : Int} (h0 : 0 ≤ r) (h1 : r < 4) (m0 : 0 ≤ m) (m1 : m ≤ 8) : ∃ lo : Int, atI [V.int (20001 - m), V.int (-20000), V.int (19990 - m), V.int (-19980)] r = some (.int lo) ∧ -20000 ≤ lo ∧ lo + m ≤ 20001 := by
  have : r = 0 ∨ r = 1 ∨ r = 2 ∨ r = 3 := by omega
  rcases this with rfl | rfl | rfl | rfl
  · exact ⟨_, rfl, by omega, by omega⟩
  · exact ⟨_, rfl, by omega, by omega⟩
  · exact ⟨_, rfl, by omega, by omega⟩
  · exact ⟨_, rfl, by omega, by omega⟩
/-! ### _law_telling_drawn -/
structure Drawn (T : Tl) : Prop where
  ok : T.Ok
  m : T.us.length ≤ 12
  c : T.cs.length ≤ 8
  lo : -20000 ≤ T.lo
  hi : T.hi ≤ 20000
def spTD : Sp := fun vs H Q _ => ∃ (p c : Addr) (far : Bool), vs = [.ref p, .bl far] ∧ HandC H p c ∧ ∀ t c' u' d' T H', HandC H' p c → But p H H' → TellAt H' t T c' u' d' → Drawn T → Q (.ref t) H'
abbrev s_td : Stmt := top 37
abbrev N_td : List Str := ["_law_hand_here", "_law_far", "_law_sizes", "_law_modulus", "_law_style", "_law_ups", "_law_downs", "_law_many", "_law_low", "_law_core", "_law_k"]
theorem sc_td : FnScope N_td ["_law_hand_here", "_law_far"] (defScope s_td) := ⟨rfl, rfl, rfl, by decide +kernel, rfl, by decide +kernel, by decide +kernel⟩
theorem kp_td (F : At K mg "_law_telling_drawn" s_td) (GD : Keeps CX0 P w K mg base "_law_draw" 2 ["_law_hand_here", "_law_many"] spDraw) (N : Nb mg) : Keeps CX0 P w K mg base "_law_telling_drawn" 3 ["_law_hand_here", "_law_far"] spTD := by
  refine keeps_of F sc_td (fun _ _ _ _ _ _ us hl => match us, hl with | [_, _], _ => rfl) (fun vs H Q E h => ?_) (fun f cdv A outer s H vs Q E hr h => ?_)
  · obtain ⟨p, c, far, rfl, _⟩ := h
    rfl
  · obtain ⟨p, c, far, rfl, hh, kk⟩ := h
    -- the core and the end
    obtain ⟨t3, d3, tail3⟩ : ∃ tl, PSs (cxOf CX0 P w K mg base N_td "_law_telling_drawn" (defScope s_td) f cdv A outer s H E).nox ((defBody s_td).drop 10) tl ∧ ∀ (H1 : Hp) (x2 x4 : Option V) (sty lo : Int) (many : Nat) (us ds : List Bool) (u d : Addr), x4 = some (.int sty) → HandC H1 p c → But p H H1 → H1 u = some (.lst (us.map V.bl)) → H1 d = some (.lst (ds.map V.bl)) → ds.length = us.length → 0 < us.length → us.length ≤ 12 → many ≤ 8 → -20000 ≤ lo → lo + many ≤ 20001 →
        tl { nx := fun _ H' => Q .non H', rt := Q } [some (V.ref p), some (V.bl far), x2, some (V.int us.length), x4, some (V.ref u), some (V.ref d), some (V.int many), some (V.int lo), none, none] H1 := by
      refine ⟨_, (pss_cons (ps_setLc (i := 9) (own := [("_law_k", 10)]) (g := gName 10) (tt := tYes) rfl sc_td.nd rfl rfl (sw_true rfl rfl rfl (by decide +kernel)) (pi_range1 (by rfl) N.range (pa_cons (pv 7) pa_nil)) (blkOk_by (N := N_td) (sc := defScope s_td) (by decide +kernel)) (fun _ _ _ _ _ => (pg_name (i := 10) sc_td.nd rfl (by walk_at "lv"))) (fun _ _ _ _ _ => pts_nil) (fun _ _ _ _ _ => (pe_cmpR op_eq (pe_k GD hr (by rfl) pass0 (pa_cons (pv 0) (pa_cons pe_int pa_nil))) pe_int (nomark _))))
        (pss_cons (ps_if (PW.pt (pw_and (pt_cmpR op_eq (pv 4) pe_int (nomark _)) (pw_and1 (pt_cmpR op_eq (pe_k GD hr (by rfl) pass0 (pa_cons (pv 0) (pa_cons pe_int pa_nil))) pe_int (nomark _))))) (pss_one (ps_setLc (i := 9) (own := [("_law_k", 10)]) (g := gName 10) (tt := tYes) rfl sc_td.nd rfl rfl (sw_true rfl rfl rfl (by decide +kernel)) (pi_range1 (by rfl) N.range (pa_cons (pv 7) pa_nil)) (blkOk_by (N := N_td) (sc := defScope s_td) (by decide +kernel)) (fun _ _ _ _ _ => (pg_name (i := 10) sc_td.nd rfl (by walk_at "lv"))) (fun _ _ _ _ _ => pts_nil) (fun _ _ _ _ _ => (pe_ix (r := rIxL K) ix_list (pv 5) (pe_op op_mod (pe_callTy call_int1 (by rfl) N.int boot_int (pa_cons (pe_op op_add (pv 8) (pv 10)) pa_nil)) (pv 3)) (fun _ _ => rfl))))) pss_nil)
        (pss_one (ps_ret (pe_lst (pa_cons (pv 8) (pa_cons (pe_op op_sub (pe_op op_add (pv 8) (pv 7)) pe_int) (pa_cons (pv 9) (pa_cons (pv 3) (pa_cons (pv 5) (pa_cons (pv 6) pa_nil))))))))))), ?_⟩
      rintro H1 x2 x4 sty lo many us ds u d rfl h1 b1 eu ed el m0 m1 cm l0 l1
      have fin : ∀ (H2 : Hp) (c1 : Addr) (cs : List Bool), cs.length = many → HandC H2 p c → But p H1 H2 → H2 c1 = some (.lst (cs.map V.bl)) →
          tRet (tLst (tCons (tVar 8) (tCons (tOp (rI0 fun i j => V.int (i - j)) (tOp (rI0 fun i j => V.int (i + j)) (tVar 8) (tVar 7)) (tC (V.int 1))) (tCons (tVar 9) (tCons (tVar 3) (tCons (tVar 5) (tCons (tVar 6) tNil))))))) { nx := fun _ H' => Q .non H', rt := Q } [some (V.ref p), some (V.bl far), x2, some (V.int us.length), some (V.int sty), some (V.ref u), some (V.ref d), some (V.int many), some (V.int lo), some (V.ref c1), none] H2 := by
        intro H2 c1 cs cl h2 b2 ec
        refine ⟨_, rfl, _, rfl, _, rfl, _, _, rfl, rfl, _, _, rfl, rfl, _, rfl, _, rfl, _, rfl, _, rfl, (by show 6 ≤ sizeLine; decide), fun t ht => ?_⟩
        have st := same_new (o := .lst [V.int lo, V.int (lo + (many : Int) - 1), V.ref c1, V.int us.length, V.ref u, V.ref d]) (Same.refl H2) ht
        refine kk t c1 u d ⟨lo, cs, us, ds⟩ _ (h2.same st) ((b1.trans b2).trans (But.of st)) ⟨?_, ⟨st _ _ ec, st _ _ (b2 _ _ (h1.neb eu) eu), st _ _ (b2 _ _ (h1.neb ed) ed)⟩⟩ ⟨⟨el, m0⟩, m1, by show cs.length ≤ 8; omega, l0, by show lo + (cs.length : Int) - 1 ≤ 20000; omega⟩
        refine Eq.trans upd_same ?_
        show some (HO.lst [V.int lo, V.int (lo + (many : Int) - 1), V.ref c1, V.int us.length, V.ref u, V.ref d]) = some (HO.lst [V.int lo, V.int (lo + (cs.length : Int) - 1), V.ref c1, V.int us.length, V.ref u, V.ref d])
        rw [cl]
      dsimp only [tSeq, tAsg]
      refine lc_draw (j := 7) (i := 10) (m := many) rfl (by omega) h1 (fun _ => rfl) (fun _ => rfl) fun c1 cs H2 cl n1 e1 h2 b2 => ?_
      refine ⟨_, rfl, rfl, _, rfl, ite2 (fun q1 => ?_) (fun q1 => iteF (fin H2 c1 cs cl h2 b2 e1))⟩
      refine ⟨_, rfl, p, c, 2, rfl, h2, ⟨by decide, by decide⟩, fun r H3 r0 r1 h3 b3 => ⟨rfl, _, rfl, ite2 (fun q2 => ?_) (fun q2 => fin H3 c1 cs cl h3 (b2.trans b3) (b3 _ _ (h2.neb e1) e1))⟩⟩
      have b13 := b2.trans b3
      have eu3 := b13 _ _ (h1.neb eu) eu
      refine ⟨_, rfl, _, rfl, by omega, by omega, fun D hD => ?_⟩
      rw [show ((many : Int)).toNat = many by omega]
      refine lc_itF (G := fun _ => True) walk_range hD (fun x => ((List.range x).map fun k => cyc us (lo + (0 + (k : Nat)))).map V.bl) rfl (fun x hx => small1000 (by rw [List.length_map, List.length_map, List.length_range]; omega)) (fun _ _ => trivial) ?_ ?_ ?_ ?_ ?_
      · rintro x v H4 H5 hx e s ⟨rfl, rfl⟩
        refine ⟨rfl, _, rfl, _, rfl, _, rfl, _, _, rfl, rfl, .inl ⟨_, rfl, _, rfl, _, _, rfl, rfl, (by omega : (0 : Int) < (us.length : Int)), u, _, _, _, rfl, rfl, SqL.of (s _ _ eu3), cyc_get (n := lo + (0 + (x : Int))) rfl m0, e, s, ?_⟩⟩
        rw [List.range_succ, List.map_append, List.map_append]
        rfl
      · exact fun x H' Q Q' h q => h _ _ q
      · exact fun σ2 H2 Q1 Q2 h q => h _ _ q
      · rintro σ2 H4 Q1 Q2 h ⟨x1, h1, x2, h2, x3, h3, i, j, e1, e2, q⟩
        rcases q with ⟨i', e3, x4, h4, i2, j2, e4, e5, e6, p', xs, ii, v, e7, e8, e9, e10, q⟩ | ⟨b', e3, x4, h4, i2, j2, e4, e5, e6, p', xs, ii, v, e7, e8, e9, e10, q⟩
        · exact ⟨x1, h1, x2, h2, x3, h3, i, j, e1, e2, .inl ⟨i', e3, x4, h4, i2, j2, e4, e5, e6, p', xs, ii, v, e7, e8, e9, e10, h _ _ q⟩⟩
        · exact ⟨x1, h1, x2, h2, x3, h3, i, j, e1, e2, .inr ⟨b', e3, x4, h4, i2, j2, e4, e5, e6, p', xs, ii, v, e7, e8, e9, e10, h _ _ q⟩⟩
      · intro H4 e4 s4
        exact fin H4 D _ (by rw [List.length_map, List.length_range]) (h3.same s4) (b13.trans (But.of s4)) e4
    -- how many, from where
    obtain ⟨t2, d2, tail2⟩ : ∃ tl, PSs (cxOf CX0 P w K mg base N_td "_law_telling_drawn" (defScope s_td) f cdv A outer s H E).nox ((defBody s_td).drop 7) tl ∧ ∀ (H1 : Hp) (x2 : Option V) (sty : Int) (us ds : List Bool) (u d : Addr), HandC H1 p c → But p H H1 → H1 u = some (.lst (us.map V.bl)) → H1 d = some (.lst (ds.map V.bl)) → ds.length = us.length → 0 < us.length → us.length ≤ 12 →
        tl { nx := fun _ H' => Q .non H', rt := Q } [some (V.ref p), some (V.bl far), x2, some (V.int us.length), some (V.int sty), some (V.ref u), some (V.ref d), none, none, none, none] H1 := by
      refine ⟨_, (pss_cons (ps_set (i := 7) sc_td.nd rfl (by walk_at "lv") (pe_k GD hr (by rfl) pass0 (pa_cons (pv 0) (pa_cons pe_int pa_nil))))
        (pss_cons (ps_set (i := 8) sc_td.nd rfl (by walk_at "lv") (pe_op op_sub (pe_k GD hr (by rfl) pass0 (pa_cons (pv 0) (pa_cons pe_int pa_nil))) pe_int))
        (pss_cons (ps_if (PW.pt (pw_and (pt_val (pv 1)) (pw_and1 (pt_cmpR op_eq (pe_k GD hr (by rfl) pass0 (pa_cons (pv 0) (pa_cons pe_int pa_nil))) pe_int (nomark _))))) (pss_one (ps_set (i := 8) sc_td.nd rfl (by walk_at "lv") (pe_ix ix_tup (pe_tup (pa_cons (pe_op op_sub pe_int (pv 7)) (pa_cons (pe_un un_neg pe_int) (pa_cons (pe_op op_sub pe_int (pv 7)) (pa_cons (pe_un un_neg pe_int) pa_nil))))) (pe_k GD hr (by rfl) pass0 (pa_cons (pv 0) (pa_cons pe_int pa_nil))) (fun _ _ => rfl)))) pss_nil)
        d3))), ?_⟩
      rintro H1 x2 sty us ds u d h1 b1 eu ed el m0 m1
      refine ⟨_, rfl, p, c, 9, rfl, h1, ⟨by decide, by decide⟩, fun r H2 r0 r1 h2 b2 => ?_⟩
      refine ⟨_, rfl, p, c, 13, rfl, h2, ⟨by decide, by decide⟩, fun r' H3 r0' r1' h3 b3 => ⟨_, _, rfl, rfl, ?_⟩⟩
      obtain ⟨many, rfl⟩ := Int.eq_ofNat_of_zero_le r0
      have b13 := b2.trans b3
      have eu3 := b13 _ _ (h1.neb eu) eu
      have ed3 := b13 _ _ (h1.neb ed) ed
      refine ⟨_, rfl, _, rfl, ?_⟩
      cases far with
      | false =>
        refine iteF ?_
        exact tail3 H3 x2 _ sty _ many us ds u d rfl h3 (b1.trans b13) eu3 ed3 el m0 m1 (by omega) (by omega) (by omega)
      | true =>
        refine iteT ⟨_, rfl, p, c, 6, rfl, h3, ⟨by decide, by decide⟩, fun r2 H4 r20 r21 h4 b4 => ⟨rfl, _, rfl, ite2 (fun q => ?_) (fun q => ?_)⟩⟩
        · refine ⟨_, rfl, _, _, rfl, rfl, _, rfl, _, rfl, _, _, rfl, rfl, _, rfl, (by show 4 ≤ sizeLine; decide), fun t ht => ?_⟩
          have st := same_new (o := .tup [V.int (20001 - (many : Int)), V.int (-20000), V.int (19990 - (many : Int)), V.int (-19980)]) (Same.refl H4) ht
          refine ⟨_, rfl, p, c, 4, rfl, h4.same st, ⟨by decide, by decide⟩, fun r3 H5 r30 r31 h5 b5 => ?_⟩
          obtain ⟨lo, e1, e2, e3⟩ := far_at (m := (many : Int)) r30 r31 (by omega) (by omega)
          refine ⟨t, _, _, _, rfl, rfl, SqT.of (b5 _ _ (h4.ne ht).1.symm upd_same), e1, ?_⟩
          have b14 := b13.trans (b4.trans ((But.of st).trans b5))
          exact tail3 H5 x2 _ sty lo many us ds u d rfl h5 (b1.trans b14) (b14 _ _ (h1.neb eu) eu) (b14 _ _ (h1.neb ed) ed) el m0 m1 (by omega) e2 e3
        · have b14 := b13.trans b4
          exact tail3 H4 x2 _ sty _ many us ds u d rfl h4 (b1.trans b14) (b14 _ _ (h1.neb eu) eu) (b14 _ _ (h1.neb ed) ed) el m0 m1 (by omega) (by omega) (by omega)
    obtain ⟨t1, d1, tail1⟩ : ∃ tl, PSs (cxOf CX0 P w K mg base N_td "_law_telling_drawn" (defScope s_td) f cdv A outer s H E).nox ((defBody s_td).drop 6) tl ∧ ∀ (H1 : Hp) (x2 : Option V) (sty : Int) (us ds : List Bool) (u d : Addr), HandC H1 p c → But p H H1 → H1 u = some (.lst (us.map V.bl)) → H1 d = some (.lst (ds.map V.bl)) → ds.length = us.length → 0 < us.length → us.length ≤ 12 →
        tl { nx := fun _ H' => Q .non H', rt := Q } [some (V.ref p), some (V.bl far), x2, some (V.int us.length), some (V.int sty), some (V.ref u), some (V.ref d), none, none, none, none] H1 := by
      refine ⟨_, (pss_cons (ps_if (PW.pt (pw_and (pt_cmpR op_eq (pv 4) pe_int (nomark _)) (pw_and1 (pt_cmpR op_gt (pv 3) pe_int (nomark _))))) (pss_one (ps_set (i := 5) sc_td.nd rfl (by walk_at "lv") (pe_lc (own := [("_law_k", 10)]) (g := gName 10) (tt := tYes) rfl sc_td.nd (pi_range1 (by rfl) N.range (pa_cons (pv 3) pa_nil)) (blkOk_by (N := N_td) (sc := defScope s_td) (by decide +kernel)) (fun _ _ _ _ _ => (pg_name (i := 10) sc_td.nd rfl (by walk_at "lv"))) (fun _ _ _ _ _ => pts_nil) (fun _ _ _ _ _ => (pe_ix (r := rIxL K) ix_list (pv 5) (pe_op op_mul (pe_op op_fdiv (pv 10) pe_int) pe_int) (fun _ _ => rfl)))))) pss_nil)
        d2), ?_⟩
      rintro H1 x2 sty us ds u d h1 b1 eu ed el m0 m1
      refine ⟨_, rfl, rfl, _, rfl, ite2 (fun q1 => ?_) (fun q1 => iteF (tail2 H1 x2 sty us ds u d h1 b1 eu ed el m0 m1))⟩
      refine ⟨_, rfl, _, _, rfl, rfl, _, rfl, ite2 (fun q2 => ?_) (fun q2 => tail2 H1 x2 sty us ds u d h1 b1 eu ed el m0 m1)⟩
      refine ⟨_, rfl, _, rfl, by omega, by omega, fun D hD => ?_⟩
      rw [show ((us.length : Int)).toNat = us.length by omega]
      refine lc_itF (G := fun _ => True) walk_range hD (fun x => ((List.range x).map fun k => us.getD ((0 + (k : Nat) : Int) / 2 * 2).toNat false).map V.bl) rfl (fun x hx => small1000 (by rw [List.length_map, List.length_map, List.length_range]; omega)) (fun _ _ => trivial) ?_ ?_ ?_ ?_ ?_
      · rintro x v H4 H5 hx e s ⟨rfl, rfl⟩
        refine ⟨rfl, _, rfl, _, rfl, _, _, rfl, rfl, ⟨by decide, by decide⟩, _, _, rfl, rfl, .inr ⟨by decide, by decide⟩, u, _, _, _, rfl, rfl, SqL.of (s _ _ eu), blI_get (i := (0 + (x : Int)) / 2 * 2) (by omega) (by omega), e, s, ?_⟩
        rw [List.range_succ, List.map_append, List.map_append]
        rfl
      · exact fun x H' Q Q' h q => h _ _ q
      · exact fun σ2 H2 Q1 Q2 h q => h _ _ q
      · rintro σ2 H4 Q1 Q2 h ⟨x1, h1, x2, h2, i, j, e1, e2, e3, i2, j2, e4, e5, e6, p', xs, ii, v, e7, e8, e9, e10, q⟩
        exact ⟨x1, h1, x2, h2, i, j, e1, e2, e3, i2, j2, e4, e5, e6, p', xs, ii, v, e7, e8, e9, e10, h _ _ q⟩
      · intro H4 e4 s4
        have hl : ((List.range us.length).map fun k => us.getD ((0 + (k : Nat) : Int) / 2 * 2).toNat false).length = us.length := by rw [List.length_map, List.length_range]
        have := tail2 H4 x2 sty _ ds D d (h1.same s4) (b1.trans (But.of s4)) e4 (s4 _ _ ed) (by rw [hl]; exact el) (by rw [hl]; exact m0) (by rw [hl]; exact m1)
        rw [hl] at this
        exact this
    refine ⟨_, (pss_cons (ps_set (i := 2) sc_td.nd rfl (by walk_at "lv") (pe_tup (pa_cons pe_int (pa_cons pe_int (pa_cons pe_int (pa_cons pe_int (pa_cons pe_int (pa_cons pe_int (pa_cons pe_int (pa_cons pe_int (pa_cons pe_int (pa_cons pe_int (pa_cons pe_int (pa_cons pe_int pa_nil))))))))))))))
        (pss_cons (ps_set (i := 3) sc_td.nd rfl (by walk_at "lv") (pe_ix ix_tup (pv 2) (pe_k GD hr (by rfl) pass0 (pa_cons (pv 0) (pa_cons pe_int pa_nil))) (fun _ _ => rfl)))
        (pss_cons (ps_set (i := 4) sc_td.nd rfl (by walk_at "lv") (pe_k GD hr (by rfl) pass0 (pa_cons (pv 0) (pa_cons pe_int pa_nil))))
        (pss_cons (ps_set (i := 5) sc_td.nd rfl (by walk_at "lv") (pe_lc (own := [("_law_k", 10)]) (g := gName 10) (tt := tYes) rfl sc_td.nd (pi_range1 (by rfl) N.range (pa_cons (pv 3) pa_nil)) (blkOk_by (N := N_td) (sc := defScope s_td) (by decide +kernel)) (fun _ _ _ _ _ => (pg_name (i := 10) sc_td.nd rfl (by walk_at "lv"))) (fun _ _ _ _ _ => pts_nil) (fun _ _ _ _ _ => (pe_cmpR op_eq (pe_k GD hr (by rfl) pass0 (pa_cons (pv 0) (pa_cons pe_int pa_nil))) pe_int (nomark _)))))
        (pss_cons (ps_set (i := 6) sc_td.nd rfl (by walk_at "lv") (pe_ifExp (pt_cmpR op_eq (pv 4) pe_int (nomark _)) (pe_callTy call_list_of (by rfl) N.list (by decide +kernel) (pa_cons (pv 5) pa_nil)) (pe_lc (own := [("_law_k", 10)]) (g := gName 10) (tt := tYes) rfl sc_td.nd (pi_range1 (by rfl) N.range (pa_cons (pv 3) pa_nil)) (blkOk_by (N := N_td) (sc := defScope s_td) (by decide +kernel)) (fun _ _ _ _ _ => (pg_name (i := 10) sc_td.nd rfl (by walk_at "lv"))) (fun _ _ _ _ _ => pts_nil) (fun _ _ _ _ _ => (pe_cmpR op_eq (pe_k GD hr (by rfl) pass0 (pa_cons (pv 0) (pa_cons pe_int pa_nil))) pe_int (nomark _))))))
        (pss_cons (ps_if (pt_cmpR op_eq (pv 4) pe_int (nomark _)) (pss_cons (ps_set (i := 5) sc_td.nd rfl (by walk_at "lv") (pe_op op_rep (pe_lst (pa_cons pe_bl pa_nil)) (pv 3))) (pss_one (ps_set (i := 6) sc_td.nd rfl (by walk_at "lv") (pe_op op_rep (pe_lst (pa_cons pe_bl pa_nil)) (pv 3))))) pss_nil)
        d1)))))), ?_⟩
    refine ⟨(by show 12 ≤ sizeLine; decide), fun t0 ht0 => ?_⟩
    have s0 := same_new (o := .tup [V.int 1, V.int 2, V.int 3, V.int 4, V.int 6, V.int 1, V.int 5, V.int 2, V.int 8, V.int 9, V.int 12, V.int 7]) (Same.refl H) ht0
    refine ⟨_, rfl, _, rfl, p, c, 12, rfl, hh.same s0, ⟨by decide, by decide⟩, fun r H1 r0 r1 h1 b1 => ?_⟩
    obtain ⟨m, em, m0, m1⟩ := sizes_at r0 r1
    refine ⟨t0, _, _, _, rfl, rfl, SqT.of (b1 _ _ (hh.ne ht0).1.symm upd_same), em, ?_⟩
    refine ⟨_, rfl, p, c, 4, rfl, h1, ⟨by decide, by decide⟩, fun sty H2 y0 y1 h2 b2 => ?_⟩
    have b02 := ((But.of s0).trans b1).trans b2
    dsimp only [gName, tSeq, tAsg]
    refine lc_draw (j := 3) (i := 10) (m := m) rfl (by omega) h2 (fun _ => rfl) (fun _ => rfl) fun u us H3 ul n3 eu h3 b3 => ?_
    have b03 := b02.trans b3
    -- the two sides are told: what the first if does
    have ul1 : (us.length : Int) = (m : Int) := by omega
    have go : ∀ (H4 : Hp) (ds : List Bool) (d : Addr), ds.length = m → HandC H4 p c → But p H H4 → H4 u = some (.lst (us.map V.bl)) → H4 d = some (.lst (ds.map V.bl)) →
        tIfS (tTest (tOp rEq (tVar 4) (tC (V.int 1)))) (tSeq (tAsg (tOp rRep (tLst (tCons (tC (V.bl false)) tNil)) (tVar 3)) (gName 5)) (tAsg (tOp rRep (tLst (tCons (tC (V.bl false)) tNil)) (tVar 3)) (gName 6))) tNext { nx := t1 { nx := fun _ H' => Q .non H', rt := Q }, rt := Q } [some (V.ref p), some (V.bl far), some (V.ref t0), some (V.int (m : Int)), some (V.int sty), some (V.ref u), some (V.ref d), none, none, none, none] H4 := by
      intro H4 ds d dl h4 b4 eu4 ed4
      refine ⟨_, rfl, rfl, _, rfl, ite2 (fun q => ?_) (fun q => ?_)⟩
      · have rl : ∀ k : Nat, (List.replicate k [V.bl false]).flatten = (List.replicate k false).map V.bl := fun k => by rw [rep_flat, List.map_replicate]
        refine ⟨(by show 1 ≤ sizeLine; decide), fun l1 hl1 => ?_⟩
        have s1 := same_new (o := .lst [V.bl false]) (Same.refl H4) hl1
        refine ⟨_, rfl, l1, _, _, rfl, rfl, upd_same, by omega, by omega, ?_, fun u' hu' => ?_⟩
        · show 1 * _ ≤ _
          rw [Nat.one_mul]
          exact Nat.le_of_lt (small1000 (by omega))
        rw [Int.toNat_natCast, rl] at *
        have s2 := same_new (o := .lst ((List.replicate m false).map V.bl)) s1 hu'
        refine ⟨(by show 1 ≤ sizeLine; decide), fun l2 hl2 => ?_⟩
        have s3 := same_new (o := .lst [V.bl false]) s2 hl2
        have hu2 : u' ≠ l2 := ne_of_none upd_same hl2
        refine ⟨_, rfl, l2, _, _, rfl, rfl, upd_same, by omega, by omega, ?_, fun d' hd' => ?_⟩
        · show 1 * _ ≤ _
          rw [Nat.one_mul]
          exact Nat.le_of_lt (small1000 (by omega))
        rw [Int.toNat_natCast, rl] at *
        have s4 := same_new (o := .lst ((List.replicate m false).map V.bl)) s3 hd'
        have hu3 : u' ≠ d' := ne_of_none (by rw [upd_ne hu2]; exact upd_same) hd'
        have ln : (List.replicate m false).length = m := List.length_replicate
        have := tail1 _ (some (V.ref t0)) sty (List.replicate m false) (List.replicate m false) u' d' (h4.same s4) (b4.trans (But.of s4)) (by rw [upd_ne hu3, upd_ne hu2]; exact upd_same) upd_same rfl (by rw [ln]; exact m0) (by rw [ln]; exact m1)
        rw [ln] at this
        exact this
      · have := tail1 H4 (some (V.ref t0)) sty us ds u d h4 b4 eu4 ed4 (by omega) (by omega) (by omega)
        rw [ul1] at this
        exact this
    refine ⟨_, rfl, rfl, _, rfl, ite2 (fun q => ?_) (fun q => ?_)⟩
    · refine ⟨_, rfl, u, _, rfl, .inl (SqL.of eu), fun d hd => ?_⟩
      have s4 := same_new (o := .lst (us.map V.bl)) (Same.refl H3) hd
      exact go _ us d ul (h3.same s4) (b03.trans (But.of s4)) (s4 _ _ eu) upd_same
    · refine lc_draw (j := 3) (i := 10) (m := m) rfl (by omega) h3 (fun _ => rfl) (fun _ => rfl) fun d ds H4 dl n4 ed h4 b4 => ?_
      exact go H4 ds d dl h4 (b03.trans b4) (b4 _ _ (h3.neb eu) eu) ed
end
end My
set_option Elab.async false
set_option linter.all false
set_option maxRecDepth 100000
set_option maxHeartbeats 8000000
namespace My
open PySem PySem.Spec PyProof.Rows L2
local macro_rules | `(tactic| walk_at "lv") => `(tactic| first | exact Or.inl rfl | exact Or.inr rfl)
theorem rows_ok {T : Tl} {lo hi : Int} {d : Nat} : RowsOk lo hi (insOf T lo hi) d (resOf T.U d) (resOf T.D d) := by
  refine ⟨fil_asc _ _ _, fun n hn => ?_, fil_asc _ _ _, fun n hn => ?_, fil_asc _ _ _, fun n hn => ?_⟩
  · have := (mem_fil.mp hn).1
    omega
  · have := (mem_fil.mp hn).1
    omega
  · have := (mem_fil.mp hn).1
    omega
theorem mem_resOf {f : Int → Bool} {d : Nat} (hp : Per f d) (hd : 0 < d) (n : Int) : decide (n % (d : Int) ∈ resOf f d) = f n := by
  have k0 := Int.emod_nonneg n (by omega : (d : Int) ≠ 0)
  have k1 := Int.emod_lt_of_pos n (by omega : (0 : Int) < (d : Int))
  rw [← hp.mod n]
  cases e : f (n % (d : Int)) with
  | true => exact decide_eq_true (mem_fil.mpr ⟨⟨k0, by omega⟩, e⟩)
  | false => exact decide_eq_false fun z => by have := (mem_fil.mp z).2; rw [e] at this; cases this
theorem has_of {T : Tl} {lo hi : Int} {d : Nat} (fm : IsForm T.has T.U T.D lo hi d) (n : Int) : lotHas lo hi (insOf T lo hi) d (resOf T.U d) (resOf T.D d) n = T.has n := by
  unfold lotHas
  have hd := fm.least.pos
  by_cases h1 : hi < n
  · rw [if_pos h1, mem_resOf fm.least.pu hd, fm.above h1]
  · rw [if_neg h1]
    by_cases h2 : n < lo
    · rw [if_pos h2, mem_resOf fm.least.pd hd, fm.below h2]
    · rw [if_neg h2]
      cases e : T.has n with
      | true => exact decide_eq_true (mem_fil.mpr ⟨⟨by omega, by omega⟩, e⟩)
      | false => exact decide_eq_false fun z => by have := (mem_fil.mp z).2; rw [e] at this; cases this
theorem empty_fil {P : Int → Bool} {lo : Int} {n : Nat} (h : ∀ x, P x = false) : (fil P lo n).isEmpty = true := by
  cases e : fil P lo n with
  | nil => rfl
  | cons v r =>
    have := (mem_fil.mp (show v ∈ fil P lo n by rw [e]; exact List.mem_cons_self)).2
    rw [h v] at this
    cases this
theorem fil_empty {P : Int → Bool} {lo : Int} {n : Nat} (h : (fil P lo n).isEmpty = true) : ∀ x, lo ≤ x → x < lo + n → P x = false := fil_nil (List.isEmpty_iff.mp h)
theorem any_false {bs : List Bool} : bs.any id = false ↔ ∀ k, bs.getD k false = false := by
  constructor
  · intro h k; rw [List.getD_eq_getElem?_getD]
    cases e : bs[k]? with
    | none => rfl
    | some b =>
      cases b with
      | false => rfl
      | true =>
        have := List.any_eq_false.mp h true (List.mem_of_getElem? e)
        exact absurd rfl this
  · intro h
    refine List.any_eq_false.mpr fun b hb => ?_
    obtain ⟨k, hk, rfl⟩ := List.mem_iff_getElem.mp hb
    have := h k
    rw [List.getD_eq_getElem?_getD, List.getElem?_eq_getElem hk] at this
    show ¬ bs[k] = true
    have this : bs[k] = false := this
    rw [this]
    exact Bool.false_ne_true
theorem cyc_false {l : List Bool} (hl : 0 < l.length) : (∀ n, cyc l n = false) ↔ l.any id = false := by
  rw [any_false]
  constructor
  · intro h k
    rcases Nat.lt_or_ge k l.length with q | q
    · rw [← cyc_lt q]
      exact h _
    · rw [List.getD_eq_getElem?_getD, List.getElem?_eq_none q]
      rfl
  · intro h n
    exact h _
theorem bare_of {T : Tl} (ok : T.Ok) {lo hi : Int} {d : Nat} (fm : IsForm T.has T.U T.D lo hi d) :
    ((insOf T lo hi).isEmpty && ((resOf T.U d).isEmpty && (resOf T.D d).isEmpty)) = (!(T.cs.any id) && (!(T.us.any id) && !(T.ds.any id))) := by
  have hd := fm.least.pos
  have per : ∀ f : Int → Bool, Per f d → ((resOf f d).isEmpty = true ↔ ∀ n, f n = false) := fun f hp => by
    constructor
    · intro h n
      have k0 := Int.emod_nonneg n (by omega : (d : Int) ≠ 0)
      have k1 := Int.emod_lt_of_pos n (by omega : (0 : Int) < (d : Int))
      rw [← hp.mod n]
      exact fil_empty h _ k0 (by omega)
    · intro h
      exact empty_fil h
  have hh : T.hi = T.lo + T.cs.length - 1 := rfl
  rw [Bool.eq_iff_iff, Bool.and_eq_true, Bool.and_eq_true, Bool.and_eq_true, Bool.and_eq_true, per _ fm.least.pu, per _ fm.least.pd, Bool.not_eq_true', Bool.not_eq_true', Bool.not_eq_true', ← cyc_false (l := T.us) ok.pos, ← cyc_false (l := T.ds) (by rw [ok.len]; exact ok.pos)]
  constructor
  · rintro ⟨h1, h2, h3⟩
    have hz : ∀ n, T.has n = false := fun n => by
      rcases Int.lt_or_le hi n with q | q
      · rw [fm.above q, h2]
      · rcases Int.lt_or_le n lo with q2 | q2
        · rw [fm.below q2, h3]
        · exact fil_empty h1 n q2 (by omega)
    refine ⟨any_false.mpr fun k => ?_, h2, h3⟩
    rcases Nat.lt_or_ge k T.cs.length with q | q
    · have := hz (T.lo + (k : Int))
      rw [Tl.core (by omega) (by omega), show (T.lo + (k : Int) - T.lo).toNat = k by omega] at this
      exact this
    · rw [List.getD_eq_getElem?_getD, List.getElem?_eq_none q]
      rfl
  · rintro ⟨h1, h2, h3⟩
    refine ⟨empty_fil fun n => ?_, h2, h3⟩
    rcases Int.lt_or_le n T.lo with q | q
    · rw [Tl.below q]
      exact h3 n
    · rcases Int.lt_or_le T.hi n with q2 | q2
      · rw [Tl.above q2]
        exact h2 n
      · rw [Tl.core q q2]
        exact any_false.mp h1 _
theorem mem_cIns {T : Tl} {x : Int} : x ∈ cIns T ↔ (T.lo ≤ x ∧ x ≤ T.hi) ∧ T.cs.getD (x - T.lo).toNat false = true := by
  have hh : T.hi = T.lo + T.cs.length - 1 := rfl
  unfold cIns
  rw [List.mem_map]
  constructor
  · rintro ⟨k, hk, rfl⟩
    have := mem_res.mp hk
    refine ⟨by omega, ?_⟩
    rw [show (T.lo + k - T.lo).toNat = k.toNat by omega]
    exact this.2
  · rintro ⟨h1, h2⟩
    exact ⟨x - T.lo, mem_res.mpr ⟨by omega, h2⟩, by omega⟩
theorem dec_iff {p : Prop} [Decidable p] {b : Bool} (h : p ↔ b = true) : b = decide p := by
  cases b with
  | true => exact (decide_eq_true (h.mpr rfl)).symm
  | false => exact (decide_eq_false fun z => by have := h.mp z; cases this).symm
theorem told_parts {T : Tl} (ok : T.Ok) {ins us ds : List Int} (p1 : ins.Perm (cIns T)) (p2 : us.Perm (res T.us)) (p3 : ds.Perm (res T.ds)) : Told T ins us ds := by
  have hh : T.hi = T.lo + T.cs.length - 1 := rfl
  refine ⟨fun n hn => (mem_cIns.mp (p1.mem_iff.mp hn)).1, fun k hk => dec_iff ?_, fun n hn => ?_, fun k hk => dec_iff ?_, fun n hn => ?_, fun k hk => dec_iff ?_⟩
  · rw [p1.mem_iff, mem_cIns, show (T.lo + (k : Int) - T.lo).toNat = k by omega]
    exact ⟨fun h => h.2, fun h => ⟨by omega, h⟩⟩
  · have := (mem_res.mp (p2.mem_iff.mp hn)).1
    omega
  · rw [p2.mem_iff, mem_res, show (0 + (k : Int)).toNat = k by omega]
    exact ⟨fun h => h.2, fun h => ⟨by omega, h⟩⟩
  · have := (mem_res.mp (p3.mem_iff.mp hn)).1
    rw [ok.len] at this
    omega
  · rw [p3.mem_iff, mem_res, show (0 + (k : Int)).toNat = k by omega]
    exact ⟨fun h => h.2, fun h => ⟨by rw [ok.len]; omega, h⟩⟩
theorem cIns_nodup (T : Tl) : (cIns T).Nodup := (fil_nodup _ _ _).map _ fun a b h z => h (by omega)
theorem parts_lens {T : Tl} : (cIns T).length ≤ T.cs.length ∧ (res T.us).length ≤ T.us.length ∧ (res T.ds).length ≤ T.ds.length := by
  refine ⟨?_, fil_len _ _ _, fil_len _ _ _⟩
  unfold cIns
  rw [List.length_map]
  exact fil_len _ _ _
def Tl.flip (T : Tl) (f : Nat) : Tl := ⟨T.lo, T.cs.set f (!T.cs.getD f false), T.us, T.ds⟩
theorem flip_has {T : Tl} {f : Nat} (hf : f < T.cs.length) : (T.flip f).has (T.lo + (f : Int)) ≠ T.has (T.lo + (f : Int)) := by
  have hh : T.hi = T.lo + T.cs.length - 1 := rfl
  have hh2 : (T.flip f).hi = T.hi := by
    show T.lo + ((T.cs.set f (!T.cs.getD f false)).length : Int) - 1 = _
    rw [List.length_set]
    rfl
  rw [Tl.core (T := T.flip f) (by show T.lo ≤ _; omega) (by rw [hh2]; omega), Tl.core (by omega) (by omega)]
  show (T.cs.set f (!T.cs.getD f false)).getD (T.lo + (f : Int) - T.lo).toNat false ≠ T.cs.getD (T.lo + (f : Int) - T.lo).toNat false
  rw [show (T.lo + (f : Int) - T.lo).toNat = f by omega, List.getD_eq_getElem?_getD, List.getElem?_set, if_pos rfl, if_pos hf]
  show (!T.cs.getD f false) ≠ _
  cases T.cs.getD f false <;> decide
theorem lotEq_all {lo hi lo' hi' m m' : Int} {ins us ds ins' us' ds' : List Int} (h : lotEq lo hi ins m us ds lo' hi' ins' m' us' ds' = true) : lo = lo' ∧ hi = hi' ∧ ins = ins' ∧ m = m' ∧ us = us' ∧ ds = ds' := by
  unfold lotEq at h
  simpa using h
theorem lotEq_self {lo hi m : Int} {ins us ds : List Int} : lotEq lo hi ins m us ds lo hi ins m us ds = true := by
  unfold lotEq
  simp
/-! ### what draws leave -/
theorem HandC.np {H : Hp} {p c x : Addr} {o : HO} (h : HandC H p c) (e : H x = some o) (ho : ∀ a i r t, o ≠ .lst [.ref a, .int i, .int r, .int t]) : x ≠ p := by
  obtain ⟨cs, i, r, t, e1, _, _⟩ := h
  exact ne_of e e1 (ho _ _ _ _)
theorem TellAt.but {H H' : Hp} {p c t c' u d : Addr} {T : Tl} (hh : HandC H p c) (b : But p H H') (h : TellAt H t T c' u d) : TellAt H' t T c' u d :=
  ⟨b _ _ (hh.np h.t fun _ _ _ _ z => by cases z) h.t, ⟨b _ _ (hh.neb h.l.cs) h.l.cs, b _ _ (hh.neb h.l.us) h.l.us, b _ _ (hh.neb h.l.ds) h.l.ds⟩⟩
theorem LotAt.but {H H' : Hp} {p c C l : Addr} {lo hi : Int} {ins us ds : List Int} {m : Nat} (hh : HandC H p c) (b : But p H H') (h : LotAt C H l lo hi ins m us ds) : LotAt C H' l lo hi ins m us ds := by
  obtain ⟨dx, a1, a2, a3, h1, h2, h3, h4⟩ := h
  exact ⟨dx, a1, a2, a3, b _ _ (hh.np h1 fun _ _ _ _ z => by cases z) h1, b _ _ (hh.np h2 fun _ _ _ _ z => by cases z) h2, b _ _ (hh.np h3 fun _ _ _ _ z => by cases z) h3, b _ _ (hh.np h4 fun _ _ _ _ z => by cases z) h4⟩
theorem FormAt.but {H H' : Hp} {p c q : Addr} {lo hi : Int} {ins us ds : List Int} {m : Nat} (hh : HandC H p c) (b : But p H H') (h : FormAt H q lo hi ins m us ds) : FormAt H' q lo hi ins m us ds := by
  obtain ⟨a1, a2, a3, h1, h2, h3, h4⟩ := h
  exact ⟨a1, a2, a3, b _ _ (hh.np h1 fun _ _ _ _ z => by cases z) h1, b _ _ (hh.np h2 fun _ _ _ _ z => by cases z) h2, b _ _ (hh.np h3 fun _ _ _ _ z => by cases z) h3, b _ _ (hh.np h4 fun _ _ _ _ z => by cases z) h4⟩
end My
set_option linter.all false
namespace My
/-! ### a lot's data as a telling; moved, turned -/
def tlOf (lo : Int) (n : Nat) (xs : List Int) (m : Nat) (us ds : List Int) : Tl :=
  ⟨lo, (List.range n).map fun (k : Nat) => decide (lo + (k : Int) ∈ xs), (List.range m).map fun (k : Nat) => decide ((k : Int) ∈ us), (List.range m).map fun (k : Nat) => decide ((k : Int) ∈ ds)⟩
theorem getD_rng {f : Nat → Bool} {n k : Nat} (h : k < n) : ((List.range n).map f).getD k false = f k := by
  rw [List.getD_eq_getElem?_getD, List.getElem?_map, List.getElem?_range h]; rfl
theorem cyc_rng {f : Nat → Bool} {m : Nat} (hm : 0 < m) (x : Int) : cyc ((List.range m).map f) x = f (x % (m : Int)).toNat := by
  unfold cyc
  have k1 := Int.emod_lt_of_pos x (by omega : (0 : Int) < (m : Int))
  have k0 := Int.emod_nonneg x (by omega : (m : Int) ≠ 0)
  rw [List.length_map, List.length_range, getD_rng (by omega)]
section
variable {lo : Int} {n m : Nat} {xs us ds : List Int}
theorem tlOf_ok (hm : 0 < m) : (tlOf lo n xs m us ds).Ok := ⟨by show ((List.range m).map _).length = ((List.range m).map _).length; simp, by show 0 < ((List.range m).map _).length; simpa using hm⟩
theorem tlOf_m : (tlOf lo n xs m us ds).us.length = m := by show ((List.range m).map _).length = m; simp
theorem tlOf_c : (tlOf lo n xs m us ds).cs.length = n := by show ((List.range n).map _).length = n; simp
theorem tlOf_hi : (tlOf lo n xs m us ds).hi = lo + n - 1 := by
  show lo + (((List.range n).map _).length : Int) - 1 = _
  simp
theorem tlOf_U (hm : 0 < m) (x : Int) : (tlOf lo n xs m us ds).U x = decide (x % (m : Int) ∈ us) := by
  have k0 := Int.emod_nonneg x (by omega : (m : Int) ≠ 0)
  show cyc _ x = _
  refine (cyc_rng hm x).trans ?_
  rw [Int.toNat_of_nonneg k0]
theorem tlOf_D (hm : 0 < m) (x : Int) : (tlOf lo n xs m us ds).D x = decide (x % (m : Int) ∈ ds) := by
  have k0 := Int.emod_nonneg x (by omega : (m : Int) ≠ 0)
  show cyc _ x = _
  refine (cyc_rng hm x).trans ?_
  rw [Int.toNat_of_nonneg k0]
theorem tlOf_has (hm : 0 < m) (x : Int) : (tlOf lo n xs m us ds).has x = lotHas lo (lo + n - 1) xs m us ds x := by
  unfold Tl.has lotHas
  rw [tlOf_hi, tlOf_U hm, tlOf_D hm]
  show (if x < lo then _ else _) = _
  by_cases h1 : x < lo
  · rw [if_pos h1, if_neg (by omega), if_pos h1]
  · rw [if_neg h1]
    by_cases h2 : lo + (n : Int) - 1 < x
    · rw [if_pos h2, if_pos h2]
    · rw [if_neg h2, if_neg h2, if_neg h1]
      show ((List.range n).map _).getD (x - lo).toNat false = _
      rw [getD_rng (by omega), show lo + ((x - lo).toNat : Int) = x by omega]
theorem tlOf_told (hx : ∀ x ∈ xs, lo ≤ x ∧ x ≤ lo + n - 1) (hu : ∀ x ∈ us, 0 ≤ x ∧ x < m) (hd : ∀ x ∈ ds, 0 ≤ x ∧ x < m) : Told (tlOf lo n xs m us ds) xs us ds := by
  refine ⟨fun x h => ?_, fun k h => ?_, fun x h => ?_, fun k h => ?_, fun x h => ?_, fun k h => ?_⟩
  · rw [tlOf_hi]; exact hx x h
  · rw [tlOf_c] at h
    exact getD_rng h
  · rw [tlOf_m]
    have := hu x h
    omega
  · rw [tlOf_m] at h
    refine (getD_rng h).trans ?_
    rw [Int.zero_add]
  · rw [tlOf_m]
    have := hd x h
    omega
  · rw [tlOf_m] at h
    refine (getD_rng h).trans ?_
    rw [Int.zero_add]
end
theorem dec_cong {p q : Prop} [Decidable p] [Decidable q] (h : p ↔ q) : decide p = decide q := by
  by_cases hq : q
  · rw [decide_eq_true (h.mpr hq), decide_eq_true hq]
  · rw [decide_eq_false (fun z => hq (h.mp z)), decide_eq_false hq]
/-- rests moved on -/
theorem mem_shift {us : List Int} {m : Nat} (hu : ∀ r ∈ us, 0 ≤ r ∧ r < m) (b x : Int) : x % (m : Int) ∈ us.map (fun r => (r + b) % (m : Int)) ↔ (x - b) % (m : Int) ∈ us := by
  rw [List.mem_map]
  constructor
  · rintro ⟨r, hr, e⟩
    have e2 : r % (m : Int) = (x - b) % (m : Int) := Int.emod_eq_emod_iff_emod_sub_eq_zero.mpr (by
      have := Int.emod_eq_emod_iff_emod_sub_eq_zero.mp e
      rw [show r - (x - b) = r + b - x by omega]; exact this)
    rw [← e2, Int.emod_eq_of_lt (hu r hr).1 (hu r hr).2]
    exact hr
  · intro h
    refine ⟨_, h, ?_⟩
    rw [Int.emod_add_emod, show x - b + b = x by omega]
/-- rests turned -/
theorem mem_turn {us : List Int} {m : Nat} (hu : ∀ r ∈ us, 0 ≤ r ∧ r < m) (x : Int) : x % (m : Int) ∈ us.map (fun r => (-r) % (m : Int)) ↔ (-x) % (m : Int) ∈ us := by
  rw [List.mem_map]
  constructor
  · rintro ⟨r, hr, e⟩
    have e2 : r % (m : Int) = (-x) % (m : Int) := Int.emod_eq_emod_iff_emod_sub_eq_zero.mpr (by
      have := Int.emod_eq_emod_iff_emod_sub_eq_zero.mp e.symm
      rw [show r - -x = x - -r by omega]; exact this)
    rw [← e2, Int.emod_eq_of_lt (hu r hr).1 (hu r hr).2]
    exact hr
  · intro h
    refine ⟨_, h, ?_⟩
    refine Int.emod_eq_emod_iff_emod_sub_eq_zero.mpr ?_
    have := Int.emod_add_mul_ediv (-x) (m : Int)
    rw [show -((-x) % (m : Int)) - x = (m : Int) * ((-x) / (m : Int)) by omega]
    exact Int.mul_emod_right _ _
section
variable {lo hi : Int} {m : Nat} {xs us ds : List Int}
theorem lot_moved (hu : ∀ r ∈ us, 0 ≤ r ∧ r < m) (hd : ∀ r ∈ ds, 0 ≤ r ∧ r < m) (b x : Int) :
    lotHas (lo + b) (hi + b) (xs.map (· + b)) m (us.map fun r => (r + b) % (m : Int)) (ds.map fun r => (r + b) % (m : Int)) x = lotHas lo hi xs m us ds (x - b) := by
  unfold lotHas
  rw [dec_cong (mem_shift hu b x), dec_cong (mem_shift hd b x)]
  by_cases h1 : hi + b < x
  · rw [if_pos h1, if_pos (by omega)]
  · rw [if_neg h1, if_neg (by omega : ¬ hi < x - b)]
    by_cases h2 : x < lo + b
    · rw [if_pos h2, if_pos (by omega)]
    · rw [if_neg h2, if_neg (by omega : ¬ x - b < lo)]
      refine dec_cong ⟨fun h => ?_, fun h => List.mem_map.mpr ⟨_, h, by omega⟩⟩
      obtain ⟨y, hy, e⟩ := List.mem_map.mp h
      rw [show x - b = y by omega]
      exact hy
theorem lot_turned (hs : lo ≤ hi + 1) (hu : ∀ r ∈ us, 0 ≤ r ∧ r < m) (hd : ∀ r ∈ ds, 0 ≤ r ∧ r < m) (x : Int) :
    lotHas (-hi) (-lo) (xs.map (-·)) m (ds.map fun r => (-r) % (m : Int)) (us.map fun r => (-r) % (m : Int)) x = lotHas lo hi xs m us ds (-x) := by
  unfold lotHas
  rw [dec_cong (mem_turn hu x), dec_cong (mem_turn hd x)]
  by_cases h1 : -lo < x
  · rw [if_pos h1, if_neg (by omega : ¬ hi < -x), if_pos (by omega)]
  · rw [if_neg h1]
    by_cases h2 : x < -hi
    · rw [if_pos h2, if_pos (by omega)]
    · rw [if_neg h2, if_neg (by omega : ¬ hi < -x), if_neg (by omega : ¬ -x < lo)]
      refine dec_cong ⟨fun h => ?_, fun h => List.mem_map.mpr ⟨_, h, by omega⟩⟩
      obtain ⟨y, hy, e⟩ := List.mem_map.mp h
      rw [show -x = y by omega]
      exact hy
end
/-- the law's own telling, moved -/
def Tl.mv (T : Tl) (b : Int) : Tl := ⟨T.lo + b, T.cs, (List.range T.us.length).map fun (k : Nat) => T.U ((k : Int) - b), (List.range T.us.length).map fun (k : Nat) => T.D ((k : Int) - b)⟩
def Tl.tn (T : Tl) : Tl := ⟨-T.hi, (List.range T.cs.length).map fun (k : Nat) => T.cs.getD (T.cs.length - 1 - k) false, (List.range T.us.length).map fun (k : Nat) => T.D (-(k : Int)), (List.range T.us.length).map fun (k : Nat) => T.U (-(k : Int))⟩
theorem per_mod {f : Int → Bool} {m : Nat} (hp : Per f m) (hm : 0 < m) (g : Int → Int) (x : Int) (hg : (g (x % (m : Int))) % (m : Int) = g x % (m : Int)) : f (g ((x % (m : Int)).toNat : Int)) = f (g x) := by
  rw [Int.toNat_of_nonneg (Int.emod_nonneg x (by omega : (m : Int) ≠ 0))]
  exact hp.cong hg
theorem mv_U {T : Tl} (ok : T.Ok) (b x : Int) : (T.mv b).U x = T.U (x - b) := by
  refine (cyc_rng ok.pos x).trans (per_mod ok.pu ok.pos (· - b) x ?_)
  show (x % (T.us.length : Int) - b) % (T.us.length : Int) = (x - b) % (T.us.length : Int)
  rw [Int.sub_emod, Int.emod_emod, ← Int.sub_emod]
theorem mv_D {T : Tl} (ok : T.Ok) (b x : Int) : (T.mv b).D x = T.D (x - b) := by
  refine (cyc_rng ok.pos x).trans (per_mod ok.pd ok.pos (· - b) x ?_)
  show (x % (T.us.length : Int) - b) % (T.us.length : Int) = (x - b) % (T.us.length : Int)
  rw [Int.sub_emod, Int.emod_emod, ← Int.sub_emod]
theorem neg_mod (x : Int) (m : Nat) : (-(x % (m : Int))) % (m : Int) = (-x) % (m : Int) := by
  rw [← Int.zero_sub, Int.sub_emod, Int.emod_emod, ← Int.sub_emod, Int.zero_sub]
theorem tn_U {T : Tl} (ok : T.Ok) (x : Int) : T.tn.U x = T.D (-x) := (cyc_rng ok.pos x).trans (per_mod ok.pd ok.pos (-·) x (neg_mod x _))
theorem tn_D {T : Tl} (ok : T.Ok) (x : Int) : T.tn.D x = T.U (-x) := (cyc_rng ok.pos x).trans (per_mod ok.pu ok.pos (-·) x (neg_mod x _))
theorem mv_has {T : Tl} (ok : T.Ok) (b x : Int) : (T.mv b).has x = T.has (x - b) := by
  unfold Tl.has
  rw [mv_U ok, mv_D ok]
  show (if x < T.lo + b then _ else if T.lo + b + T.cs.length - 1 < x then _ else T.cs.getD (x - (T.lo + b)).toNat false) = if x - b < T.lo then _ else if T.lo + T.cs.length - 1 < x - b then _ else _
  by_cases h1 : x < T.lo + b
  · rw [if_pos h1, if_pos (by omega)]
  · rw [if_neg h1, if_neg (by omega : ¬ x - b < T.lo)]
    by_cases h2 : T.lo + b + T.cs.length - 1 < x
    · rw [if_pos h2, if_pos (by omega)]
    · rw [if_neg h2, if_neg (by omega : ¬ T.lo + T.cs.length - 1 < x - b), show x - (T.lo + b) = x - b - T.lo by omega]
theorem tn_has {T : Tl} (ok : T.Ok) (x : Int) : T.tn.has x = T.has (-x) := by
  unfold Tl.has
  rw [tn_U ok, tn_D ok]
  have e1 : T.tn.cs.length = T.cs.length := by show ((List.range T.cs.length).map _).length = _; simp
  have e2 : T.tn.hi = -T.lo := by
    show -T.hi + (T.tn.cs.length : Int) - 1 = _
    rw [e1]
    show -(T.lo + T.cs.length - 1) + (T.cs.length : Int) - 1 = _
    omega
  rw [e2]
  have e3 : T.hi = T.lo + T.cs.length - 1 := rfl
  show (if x < -T.hi then _ else if -T.lo < x then _ else T.tn.cs.getD (x - -T.hi).toNat false) = _
  by_cases h1 : x < -T.hi
  · rw [if_pos h1, if_neg (by omega : ¬ -x < T.lo), if_pos (by omega)]
  · rw [if_neg h1]
    by_cases h2 : -T.lo < x
    · rw [if_pos h2, if_pos (by omega)]
    · rw [if_neg h2, if_neg (by omega : ¬ -x < T.lo), if_neg (by omega : ¬ T.hi < -x)]
      refine (getD_rng (by omega)).trans ?_
      rw [show T.cs.length - 1 - (x - -T.hi).toNat = (-x - T.lo).toNat by omega]
end My
set_option linter.all false
namespace My
/-! ### rests -/
theorem bez (m n : Nat) : ∃ a b : Int, ((Nat.gcd m n : Nat) : Int) = (m : Int) * a + (n : Int) * b := by
  induction m, n using Nat.gcd.induction with
  | H0 n => exact ⟨0, 1, by simp⟩
  | H1 m n hm ih =>
    obtain ⟨a, b, e⟩ := ih
    refine ⟨b - ((n / m : Nat) : Int) * a, a, ?_⟩
    rw [Nat.gcd_rec, e]
    have h : ((n % m : Nat) : Int) = (n : Int) - (m : Int) * ((n / m : Nat) : Int) := by
      have := Nat.mod_add_div n m
      omega
    rw [h, Int.sub_mul, Int.mul_sub, Int.mul_assoc]
    omega
/-- u and r agree by the greatest common divisor: some x, as high or as low as one likes, is u by m and r by n -/
theorem crt_ex {m n : Nat} {u r : Int} (h : r % ((Nat.gcd m n : Nat) : Int) = u % ((Nat.gcd m n : Nat) : Int)) :
    ∃ k : Int, ∀ t : Int, (u + (k + n * t) * m) % (m : Int) = u % (m : Int) ∧ (u + (k + n * t) * m) % (n : Int) = r % (n : Int) := by
  obtain ⟨q, hq⟩ := Int.dvd_of_emod_eq_zero (Int.emod_eq_emod_iff_emod_sub_eq_zero.mp h)
  obtain ⟨a, b, bz⟩ := bez m n
  refine ⟨a * q, fun t => ⟨Int.add_mul_emod_self_right _ _ _, ?_⟩⟩
  refine Int.emod_eq_emod_iff_emod_sub_eq_zero.mpr (Int.emod_eq_zero_of_dvd ⟨t * m - b * q, ?_⟩)
  have e : r = u + ((m : Int) * a * q + (n : Int) * b * q) := by rw [← Int.add_mul, ← bz]; omega
  rw [e, Int.add_mul, Int.mul_sub]
  have a1 : a * q * m = (m : Int) * a * q := by rw [Int.mul_comm _ (m : Int), ← Int.mul_assoc]
  have a2 : (n : Int) * t * m = (n : Int) * (t * m) := Int.mul_assoc _ _ _
  have a3 : (n : Int) * (b * q) = (n : Int) * b * q := (Int.mul_assoc _ _ _).symm
  rw [a1, a2, a3]
  omega
/-- what rest_lot gathers -/
def RestS (xs : List Int) (m : Nat) (us ds : List Int) (n : Nat) (x : Int) : Prop := (∃ y ∈ xs, y % (n : Int) = x) ∨ ∃ u ∈ us ++ ds, x % ((Nat.gcd m n : Nat) : Int) = u % ((Nat.gcd m n : Nat) : Int)
theorem mod_gcd {m n : Nat} (x : Int) : (x % (n : Int)) % ((Nat.gcd m n : Nat) : Int) = x % ((Nat.gcd m n : Nat) : Int) :=
  Int.emod_emod_of_dvd x (Int.ofNat_dvd.mpr (Nat.gcd_dvd_right m n))
theorem mod_gcdL {m n : Nat} (x : Int) : (x % (m : Int)) % ((Nat.gcd m n : Nat) : Int) = x % ((Nat.gcd m n : Nat) : Int) :=
  Int.emod_emod_of_dvd x (Int.ofNat_dvd.mpr (Nat.gcd_dvd_left m n))
/-- the rests of a lot's numbers -/
theorem rest_iff {lo hi : Int} {m n : Nat} {xs us ds : List Int} (hm : 0 < m) (hn : 0 < n) (sz : lo ≤ hi + 1) (hi_ : ∀ y ∈ xs, lo ≤ y ∧ y ≤ hi) (hu : ∀ r ∈ us, 0 ≤ r ∧ r < m) (hd : ∀ r ∈ ds, 0 ≤ r ∧ r < m) {r : Int} (r0 : 0 ≤ r) (r1 : r < n) :
    RestS xs m us ds n r ↔ ∃ x, lotHas lo hi xs m us ds x = true ∧ x % (n : Int) = r := by
  have er : r % (n : Int) = r := Int.emod_eq_of_lt r0 r1
  have p1 : (1 : Int) ≤ (m : Int) * n := by
    have := Nat.mul_pos hm hn
    have e : ((m * n : Nat) : Int) = (m : Int) * n := by push_cast; rfl
    omega
  constructor
  · rintro (⟨y, hy, e⟩ | ⟨u, hu', e⟩)
    · refine ⟨y, ?_, e⟩
      have := hi_ y hy
      unfold lotHas; rw [if_neg (by omega), if_neg (by omega)]
      exact decide_eq_true hy
    · obtain ⟨k, hk⟩ := crt_ex e
      have far : ∀ B : Int, ∃ t : Int, B < u + (k + n * t) * m := fun B => by
        refine ⟨(B - u - k * m).natAbs + 1, ?_⟩
        have e1 : u + (k + (n : Int) * (((B - u - k * m).natAbs : Int) + 1)) * m = u + k * m + ((m : Int) * n) * (((B - u - k * m).natAbs : Int) + 1) := by
          rw [Int.add_mul, Int.mul_comm ((n : Int) * _) (m : Int), ← Int.mul_assoc]; omega
        rw [e1]
        have e2 : (1 : Int) * (((B - u - k * m).natAbs : Int) + 1) ≤ ((m : Int) * n) * (((B - u - k * m).natAbs : Int) + 1) := Int.mul_le_mul_of_nonneg_right p1 (by omega)
        generalize ((m : Int) * n) * (((B - u - k * m).natAbs : Int) + 1) = z at *
        generalize k * (m : Int) = w at *
        omega
      have low : ∀ B : Int, ∃ t : Int, u + (k + n * t) * m < B := fun B => by
        refine ⟨-((B - u - k * m).natAbs + 1), ?_⟩
        have e1 : u + (k + (n : Int) * (-(((B - u - k * m).natAbs : Int) + 1))) * m = u + k * m - ((m : Int) * n) * (((B - u - k * m).natAbs : Int) + 1) := by
          rw [Int.mul_neg, Int.add_mul, Int.neg_mul, Int.mul_comm ((n : Int) * _) (m : Int), ← Int.mul_assoc]; omega
        rw [e1]
        have e2 : (1 : Int) * (((B - u - k * m).natAbs : Int) + 1) ≤ ((m : Int) * n) * (((B - u - k * m).natAbs : Int) + 1) := Int.mul_le_mul_of_nonneg_right p1 (by omega)
        generalize ((m : Int) * n) * (((B - u - k * m).natAbs : Int) + 1) = z at *
        generalize k * (m : Int) = w at *
        omega
      rcases List.mem_append.mp hu' with h | h
      · obtain ⟨t, ht⟩ := far hi
        refine ⟨_, ?_, (hk t).2.trans er⟩
        unfold lotHas
        rw [if_pos ht, (hk t).1, Int.emod_eq_of_lt (hu u h).1 (hu u h).2]
        exact decide_eq_true h
      · obtain ⟨t, ht⟩ := low lo
        refine ⟨_, ?_, (hk t).2.trans er⟩
        unfold lotHas
        rw [if_neg (by omega), if_pos ht, (hk t).1, Int.emod_eq_of_lt (hd u h).1 (hd u h).2]
        exact decide_eq_true h
  · rintro ⟨x, hx, e⟩
    unfold lotHas at hx
    by_cases h1 : hi < x
    · rw [if_pos h1] at hx
      refine .inr ⟨_, List.mem_append_left _ (of_decide_eq_true hx), ?_⟩
      rw [← e, mod_gcd, mod_gcdL]
    · rw [if_neg h1] at hx
      by_cases h2 : x < lo
      · rw [if_pos h2] at hx
        refine .inr ⟨_, List.mem_append_right _ (of_decide_eq_true hx), ?_⟩
        rw [← e, mod_gcd, mod_gcdL]
      · rw [if_neg h2] at hx
        exact .inl ⟨x, of_decide_eq_true hx, e⟩
/-- the rests within the law's window are the rests of all numbers -/
theorem win_iff {T : Tl} (ok : T.Ok) {n : Nat} (hn : 0 < n) (r : Int) : (∃ x, T.lo - (T.us.length : Int) * n ≤ x ∧ x < T.hi + (T.us.length : Int) * n + 1 ∧ T.has x = true ∧ x % (n : Int) = r) ↔ ∃ x, T.has x = true ∧ x % (n : Int) = r := by
  constructor
  · rintro ⟨x, _, _, h, e⟩
    exact ⟨x, h, e⟩
  · rintro ⟨x, h, e⟩
    have hp := ok.pos
    have pos : (0 : Int) < (T.us.length : Int) * n := by
      have := Nat.mul_pos hp hn
      have e : ((T.us.length * n : Nat) : Int) = (T.us.length : Int) * n := by push_cast; rfl
      omega
    have hh : T.hi = T.lo + T.cs.length - 1 := rfl
    have sh : ∀ (f : Int → Bool), Per f T.m → ∀ y k : Int, f (y + (T.us.length : Int) * n * k) = f y := fun f hf y k => by
      rw [Int.mul_assoc]
      exact hf.mulI _ _
    have md : ∀ y k : Int, (y + (T.us.length : Int) * n * k) % (n : Int) = y % (n : Int) := fun y k => by
      rw [Int.mul_comm (T.us.length : Int), Int.mul_assoc]
      exact Int.add_mul_emod_self_left _ _ _
    generalize hM : (T.us.length : Int) * n = M at *
    by_cases h1 : T.hi < x
    · have d1 := Int.emod_add_mul_ediv (x - T.hi - 1) M
      have d2 := Int.emod_nonneg (x - T.hi - 1) (by omega : M ≠ 0)
      have d3 := Int.emod_lt_of_pos (x - T.hi - 1) pos
      have ex : T.hi + 1 + (x - T.hi - 1) % M = x + M * (-((x - T.hi - 1) / M)) := by rw [Int.mul_neg]; omega
      refine ⟨T.hi + 1 + (x - T.hi - 1) % M, by omega, by omega, ?_, ?_⟩
      · rw [Tl.above (by omega), ex, sh T.U ok.pu, ← Tl.above h1]
        exact h
      · rw [ex, md]
        exact e
    · by_cases h2 : x < T.lo
      · have d1 := Int.emod_add_mul_ediv (x - T.lo) M
        have d2 := Int.emod_nonneg (x - T.lo) (by omega : M ≠ 0)
        have d3 := Int.emod_lt_of_pos (x - T.lo) pos
        have ex : T.lo - M + (x - T.lo) % M = x + M * (-((x - T.lo) / M) - 1) := by rw [Int.mul_sub, Int.mul_neg]; omega
        refine ⟨T.lo - M + (x - T.lo) % M, by omega, by omega, ?_, ?_⟩
        · rw [Tl.below (by omega), ex, sh T.D ok.pd, ← Tl.below h2]
          exact h
        · rw [ex, md]
          exact e
      · exact ⟨x, by omega, by omega, h, e⟩
end My
set_option Elab.async false
set_option linter.all false
set_option maxRecDepth 100000
set_option maxHeartbeats 8000000
namespace My
open PySem PySem.Spec PyProof.Rows L2
local macro_rules | `(tactic| walk_at "lv") => `(tactic| first | exact Or.inl rfl | exact Or.inr rfl)
/-! ### moved_lot, turned_lot -/
/-- a lot's data, as the walks need them -/
structure LotD (lo hi : Int) (xs : List Int) (m : Nat) (us ds : List Int) : Prop where
  sz : lo ≤ hi + 1
  sz2 : hi + 1 - lo < 1000
  b1 : -20000 ≤ lo
  b2 : hi ≤ 20000
  i : ∀ n ∈ xs, lo ≤ n ∧ n ≤ hi
  u : ∀ r ∈ us, 0 ≤ r ∧ r < m
  d : ∀ r ∈ ds, 0 ≤ r ∧ r < m
  pos : 0 < m
  m1 : m ≤ 1000
  li : xs.length ≤ 1000
  lu : us.length ≤ 1000
  ld : ds.length ≤ 1000
theorem take_int {ns : List Int} {i : Nat} {n : Int} (h : ns[i]? = some n) (f : Int → Int) : ((ns.take (i + 1)).map f).map V.int = ((ns.take i).map f).map V.int ++ [.int (f n)] := by
  rw [List.take_succ, h, List.map_append, List.map_append]
  rfl
theorem take_all {ns : List Int} (f : Int → Int) : ((ns.take (ns.map V.int).length).map f).map V.int = (ns.map f).map V.int := by
  rw [List.length_map, List.take_length]
theorem take_small {ns : List Int} (f : Int → Int) (i : Nat) (h : ns.length ≤ 1000) : (((ns.take i).map f).map V.int).length < sizeLine := by
  refine small1000 ?_
  rw [List.length_map, List.length_map, List.length_take]
  omega
section
variable {P : Program} {w : World} {K : PySem.W.Frag} {mg : Str → Option Value} {base : Heap}
def spMoved (K : PySem.W.Frag) : Sp := fun vs H Q E => ∃ (p : Addr) (b lo hi : Int) (m : Nat) (xs us ds : List Int), vs = [.ref p, .int b] ∧ LotAt (He.ga K "Lot") H p lo hi xs m us ds ∧ LotD lo hi xs m us ds ∧ (-(9 * 10 ^ 30) ≤ b ∧ b ≤ 9 * 10 ^ 30) ∧
  LotEnd K (tlOf (lo + b) (hi + 1 - lo).toNat (xs.map (· + b)) m (us.map fun r => (r + b) % (m : Int)) (ds.map fun r => (r + b) % (m : Int))) H Q E
abbrev s_moved : Stmt := top 28
abbrev N_moved : List Str := ["lot", "by", "inside", "ups", "downs", "number", "rest"]
theorem sc_moved : FnScope N_moved ["lot", "by"] (defScope s_moved) := ⟨rfl, rfl, rfl, by decide +kernel, rfl, by decide +kernel, by decide +kernel⟩
theorem kp_moved (F : At K mg "moved_lot" s_moved) (T : LotTxt K mg (He.ga K "Lot")) (Gl_ : Keeps (CX P w) P w K mg base "_lot_of" 3 ["low", "high", "inside", "modulus", "ups", "downs"] (spLotOf K)) :
    Keeps (CX P w) P w K mg base "moved_lot" 4 ["lot", "by"] (spMoved K) := by
  refine keeps_ofX F sc_moved (fun _ _ _ _ _ _ us hl => match us, hl with | [_, _], _ => rfl) (fun vs H Q E h => ?_) (fun f cdv A outer s H vs Q E hr h => ?_)
  · obtain ⟨p, b, lo, hi, m, xs, us, ds, rfl, _⟩ := h
    rfl
  · obtain ⟨p, b, lo, hi, m, xs, us, ds, rfl, ⟨dx, a1, a2, a3, hp, h1, h2, h3⟩, L, bb, k⟩ := h
    have sz := L.sz
    have sz2 := L.sz2
    have l1 := L.b1
    have l2 := L.b2
    have mp := L.pos
    refine ⟨_, (pss_cons (ps_setLc (i := 2) (own := [("number", 5)]) (g := gName 5) (tt := tYes) rfl sc_moved.nd rfl rfl (sw_true rfl rfl rfl (by decide +kernel)) (pi_tup (pe_fld (pv 0) rfl)) (blkOk_by (N := N_moved) (sc := defScope s_moved) (by decide +kernel)) (fun _ _ _ _ _ => (pg_name (i := 5) sc_moved.nd rfl (by walk_at "lv"))) (fun _ _ _ _ _ => pts_nil) (fun _ _ _ _ _ => (pe_op op_add (pv 5) (pv 1))))
        (pss_cons (ps_setLc (i := 3) (own := [("rest", 6)]) (g := gName 6) (tt := tYes) rfl sc_moved.nd rfl rfl (sw_true rfl rfl rfl (by decide +kernel)) (pi_tup (pe_fld (pv 0) rfl)) (blkOk_by (N := N_moved) (sc := defScope s_moved) (by decide +kernel)) (fun _ _ _ _ _ => (pg_name (i := 6) sc_moved.nd rfl (by walk_at "lv"))) (fun _ _ _ _ _ => pts_nil) (fun _ _ _ _ _ => (pe_op op_mod (pe_op op_add (pv 6) (pv 1)) (tb := tFld K (tVar 0) "modulus") (pe_fld (pv 0) rfl))))
        (pss_cons (ps_setLc (i := 4) (own := [("rest", 6)]) (g := gName 6) (tt := tYes) rfl sc_moved.nd rfl rfl (sw_true rfl rfl rfl (by decide +kernel)) (pi_tup (pe_fld (pv 0) rfl)) (blkOk_by (N := N_moved) (sc := defScope s_moved) (by decide +kernel)) (fun _ _ _ _ _ => (pg_name (i := 6) sc_moved.nd rfl (by walk_at "lv"))) (fun _ _ _ _ _ => pts_nil) (fun _ _ _ _ _ => (pe_op op_mod (pe_op op_add (pv 6) (pv 1)) (tb := tFld K (tVar 0) "modulus") (pe_fld (pv 0) rfl))))
        (pss_one (ps_ret (pe_k Gl_ hr (by rfl) (passes_call (takes_of rfl rfl rfl rfl) (fun _ _ _ _ h => h)) (pa_cons (pe_op op_add (pe_fld (pv 0) rfl) (pv 1)) (pa_cons (pe_op op_add (pe_fld (pv 0) rfl) (pv 1)) (pa_cons (pv 2) (pa_cons (pe_fld (pv 0) rfl) (pa_cons (pv 3) (pa_cons (pv 4) pa_nil)))))))))))), ?_⟩
    refine ⟨_, rfl, p, _, dx, _, _, rfl, hp, T.cl, T.n3, lf_inside, a1, rfl, ⟨_, SqT.of h1⟩, fun D hD => ?_⟩
    refine lc_itF (G := fun H2 => SqT K H2 a1 (xs.map V.int)) (walk_tup (K := K) (a := a1) (xs := xs.map V.int)) hD (fun i => ((xs.take i).map (· + b)).map V.int) rfl (fun i _ => take_small _ i L.li) (fun H2 s2 => SqT.of (s2 _ _ h1)) ?_ ?_ ?_ ?_ ?_
    · rintro i x H2 H3 hi' eD s2 ⟨rfl, e4⟩
      obtain ⟨n, hn, rfl⟩ := int_at e4
      exact ⟨rfl, _, rfl, _, rfl, _, _, rfl, rfl, eD, s2, take_int hn _⟩
    · exact fun x H' Q Q' h q => h _ _ q
    · exact fun σ2 H2 Q1 Q2 h q => h _ _ q
    · rintro σ2 H2 Q1 Q2 h ⟨x1, g1, x2, g2, i, j, e1, e2, q⟩
      exact ⟨x1, g1, x2, g2, i, j, e1, e2, h _ _ q⟩
    intro H4 eD s4
    rw [take_all] at eD
    refine ⟨_, rfl, p, _, dx, _, _, rfl, s4 _ _ hp, T.cl, T.n5, lf_ups, a2, rfl, ⟨_, SqT.of (s4 _ _ h2)⟩, fun D2 hD2 => ?_⟩
    refine lc_itF (G := fun H2 => SqT K H2 a2 (us.map V.int)) (walk_tup (K := K) (a := a2) (xs := us.map V.int)) hD2 (fun i => ((us.take i).map fun r => (r + b) % (m : Int)).map V.int) rfl (fun i _ => take_small _ i L.lu) (fun H2 s2 => SqT.of (s2 _ _ (s4 _ _ h2))) ?_ ?_ ?_ ?_ ?_
    · rintro i x H2 H3 hi' eD2 s2 ⟨rfl, e4⟩
      obtain ⟨n, hn, rfl⟩ := int_at e4
      exact ⟨rfl, _, rfl, _, rfl, _, _, rfl, rfl, _, rfl, p, _, dx, _, _, rfl, s2 _ _ (s4 _ _ hp), T.cl, T.n4, lf_modulus, _, _, rfl, rfl, (by omega : (0 : Int) < (m : Int)), eD2, s2, take_int hn _⟩
    · exact fun x H' Q Q' h q => h _ _ q
    · exact fun σ2 H2 Q1 Q2 h q => h _ _ q
    · rintro σ2 H2 Q1 Q2 h ⟨x1, g1, x2, g2, i, j, e1, e2, x3, g3, p', C', dx', fs', v', e3, e4, e5, e6, e7, i2, j2, e8, e9, e10, q⟩
      exact ⟨x1, g1, x2, g2, i, j, e1, e2, x3, g3, p', C', dx', fs', v', e3, e4, e5, e6, e7, i2, j2, e8, e9, e10, h _ _ q⟩
    intro H5 eD2 s5
    rw [take_all] at eD2
    have s45 := s4.trans s5
    refine ⟨_, rfl, p, _, dx, _, _, rfl, s45 _ _ hp, T.cl, T.n6, lf_downs, a3, rfl, ⟨_, SqT.of (s45 _ _ h3)⟩, fun D3 hD3 => ?_⟩
    refine lc_itF (G := fun H2 => SqT K H2 a3 (ds.map V.int)) (walk_tup (K := K) (a := a3) (xs := ds.map V.int)) hD3 (fun i => ((ds.take i).map fun r => (r + b) % (m : Int)).map V.int) rfl (fun i _ => take_small _ i L.ld) (fun H2 s2 => SqT.of (s2 _ _ (s45 _ _ h3))) ?_ ?_ ?_ ?_ ?_
    · rintro i x H2 H3 hi' eD3 s2 ⟨rfl, e4⟩
      obtain ⟨n, hn, rfl⟩ := int_at e4
      exact ⟨rfl, _, rfl, _, rfl, _, _, rfl, rfl, _, rfl, p, _, dx, _, _, rfl, s2 _ _ (s45 _ _ hp), T.cl, T.n4, lf_modulus, _, _, rfl, rfl, (by omega : (0 : Int) < (m : Int)), eD3, s2, take_int hn _⟩
    · exact fun x H' Q Q' h q => h _ _ q
    · exact fun σ2 H2 Q1 Q2 h q => h _ _ q
    · rintro σ2 H2 Q1 Q2 h ⟨x1, g1, x2, g2, i, j, e1, e2, x3, g3, p', C', dx', fs', v', e3, e4, e5, e6, e7, i2, j2, e8, e9, e10, q⟩
      exact ⟨x1, g1, x2, g2, i, j, e1, e2, x3, g3, p', C', dx', fs', v', e3, e4, e5, e6, e7, i2, j2, e8, e9, e10, h _ _ q⟩
    intro H6 eD3 s6
    rw [take_all] at eD3
    have s46 := s45.trans s6
    have hp6 := s46 _ _ hp
    refine ⟨_, rfl, p, _, dx, _, _, rfl, hp6, T.cl, T.n1, lf_low, _, rfl, _, _, rfl, rfl, _, rfl, p, _, dx, _, _, rfl, hp6, T.cl, T.n2, lf_high, _, rfl, _, _, rfl, rfl, _, rfl, _, rfl, p, _, dx, _, _, rfl, hp6, T.cl, T.n4, lf_modulus, _, rfl, _, rfl, ?_⟩
    refine ⟨tlOf (lo + b) (hi + 1 - lo).toNat (xs.map (· + b)) m (us.map fun r => (r + b) % (m : Int)) (ds.map fun r => (r + b) % (m : Int)), D, D2, D3, _, _, _, ?_, ?_, ?_, ?_, .inl (s6 _ _ (s5 _ _ eD)), .inl (s6 _ _ eD2), .inl eD3, k.same s46⟩
    · rw [tlOf_hi, tlOf_m, show lo + b + ((hi + 1 - lo).toNat : Int) - 1 = hi + b by omega]
      rfl
    · refine ⟨tlOf_ok mp, by rw [tlOf_m]; exact L.m1, by rw [tlOf_c]; omega, ?_⟩
      show -10 ^ 31 ≤ lo + b ∧ lo + b ≤ 10 ^ 31
      omega
    · rw [tlOf_c]
      omega
    · refine tlOf_told (fun x hx => ?_) (fun x hx => ?_) (fun x hx => ?_)
      · obtain ⟨y, hy, rfl⟩ := List.mem_map.mp hx
        have := L.i y hy
        omega
      · obtain ⟨y, hy, rfl⟩ := List.mem_map.mp hx
        exact ⟨Int.emod_nonneg _ (by omega), Int.emod_lt_of_pos _ (by omega)⟩
      · obtain ⟨y, hy, rfl⟩ := List.mem_map.mp hx
        exact ⟨Int.emod_nonneg _ (by omega), Int.emod_lt_of_pos _ (by omega)⟩
def spTn (K : PySem.W.Frag) : Sp := fun vs H Q E => ∃ (p : Addr) (lo hi : Int) (m : Nat) (xs us ds : List Int), vs = [.ref p] ∧ LotAt (He.ga K "Lot") H p lo hi xs m us ds ∧ LotD lo hi xs m us ds ∧
  LotEnd K (tlOf (-hi) (hi + 1 - lo).toNat (xs.map (-·)) m (ds.map fun r => (-r) % (m : Int)) (us.map fun r => (-r) % (m : Int))) H Q E
abbrev s_tnd : Stmt := top 29
abbrev N_tnd : List Str := ["lot", "inside", "ups", "downs", "number", "rest"]
theorem sc_tnd : FnScope N_tnd ["lot"] (defScope s_tnd) := ⟨rfl, rfl, rfl, by decide +kernel, rfl, by decide +kernel, by decide +kernel⟩
theorem kp_tnd (F : At K mg "turned_lot" s_tnd) (T : LotTxt K mg (He.ga K "Lot")) (Gl_ : Keeps (CX P w) P w K mg base "_lot_of" 3 ["low", "high", "inside", "modulus", "ups", "downs"] (spLotOf K)) :
    Keeps (CX P w) P w K mg base "turned_lot" 4 ["lot"] (spTn K) := by
  refine keeps_ofX F sc_tnd (fun _ _ _ _ _ _ us hl => match us, hl with | [_], _ => rfl) (fun vs H Q E h => ?_) (fun f cdv A outer s H vs Q E hr h => ?_)
  · obtain ⟨p, lo, hi, m, xs, us, ds, rfl, _⟩ := h
    rfl
  · obtain ⟨p, lo, hi, m, xs, us, ds, rfl, ⟨dx, a1, a2, a3, hp, h1, h2, h3⟩, L, k⟩ := h
    have sz := L.sz
    have sz2 := L.sz2
    have l1 := L.b1
    have l2 := L.b2
    have mp := L.pos
    refine ⟨_, (pss_cons (ps_setLc (i := 1) (own := [("number", 4)]) (g := gName 4) (tt := tYes) rfl sc_tnd.nd rfl rfl (sw_true rfl rfl rfl (by decide +kernel)) (pi_tup (pe_fld (pv 0) rfl)) (blkOk_by (N := N_tnd) (sc := defScope s_tnd) (by decide +kernel)) (fun _ _ _ _ _ => (pg_name (i := 4) sc_tnd.nd rfl (by walk_at "lv"))) (fun _ _ _ _ _ => pts_nil) (fun _ _ _ _ _ => (pe_un un_neg (pv 4))))
        (pss_cons (ps_setLc (i := 2) (own := [("rest", 5)]) (g := gName 5) (tt := tYes) rfl sc_tnd.nd rfl rfl (sw_true rfl rfl rfl (by decide +kernel)) (pi_tup (pe_fld (pv 0) rfl)) (blkOk_by (N := N_tnd) (sc := defScope s_tnd) (by decide +kernel)) (fun _ _ _ _ _ => (pg_name (i := 5) sc_tnd.nd rfl (by walk_at "lv"))) (fun _ _ _ _ _ => pts_nil) (fun _ _ _ _ _ => (pe_op op_mod (pe_un un_neg (pv 5)) (tb := tFld K (tVar 0) "modulus") (pe_fld (pv 0) rfl))))
        (pss_cons (ps_setLc (i := 3) (own := [("rest", 5)]) (g := gName 5) (tt := tYes) rfl sc_tnd.nd rfl rfl (sw_true rfl rfl rfl (by decide +kernel)) (pi_tup (pe_fld (pv 0) rfl)) (blkOk_by (N := N_tnd) (sc := defScope s_tnd) (by decide +kernel)) (fun _ _ _ _ _ => (pg_name (i := 5) sc_tnd.nd rfl (by walk_at "lv"))) (fun _ _ _ _ _ => pts_nil) (fun _ _ _ _ _ => (pe_op op_mod (pe_un un_neg (pv 5)) (tb := tFld K (tVar 0) "modulus") (pe_fld (pv 0) rfl))))
        (pss_one (ps_ret (pe_k Gl_ hr (by rfl) (passes_call (takes_of rfl rfl rfl rfl) (fun _ _ _ _ h => h)) (pa_cons (pe_un un_neg (pe_fld (pv 0) rfl)) (pa_cons (pe_un un_neg (pe_fld (pv 0) rfl)) (pa_cons (pv 1) (pa_cons (pe_fld (pv 0) rfl) (pa_cons (pv 2) (pa_cons (pv 3) pa_nil)))))))))))), ?_⟩
    refine ⟨_, rfl, p, _, dx, _, _, rfl, hp, T.cl, T.n3, lf_inside, a1, rfl, ⟨_, SqT.of h1⟩, fun D hD => ?_⟩
    refine lc_itF (G := fun H2 => SqT K H2 a1 (xs.map V.int)) (walk_tup (K := K) (a := a1) (xs := xs.map V.int)) hD (fun i => ((xs.take i).map (-·)).map V.int) rfl (fun i _ => take_small _ i L.li) (fun H2 s2 => SqT.of (s2 _ _ h1)) ?_ ?_ ?_ ?_ ?_
    · rintro i x H2 H3 hi' eD s2 ⟨rfl, e4⟩
      obtain ⟨n, hn, rfl⟩ := int_at e4
      exact ⟨rfl, _, rfl, _, rfl, eD, s2, take_int hn _⟩
    · exact fun x H' Q Q' h q => h _ _ q
    · exact fun σ2 H2 Q1 Q2 h q => h _ _ q
    · rintro σ2 H2 Q1 Q2 h ⟨x1, g1, i, e1, q⟩
      exact ⟨x1, g1, i, e1, h _ _ q⟩
    intro H4 eD s4
    rw [take_all] at eD
    refine ⟨_, rfl, p, _, dx, _, _, rfl, s4 _ _ hp, T.cl, T.n6, lf_downs, a3, rfl, ⟨_, SqT.of (s4 _ _ h3)⟩, fun D2 hD2 => ?_⟩
    refine lc_itF (G := fun H2 => SqT K H2 a3 (ds.map V.int)) (walk_tup (K := K) (a := a3) (xs := ds.map V.int)) hD2 (fun i => ((ds.take i).map fun r => (-r) % (m : Int)).map V.int) rfl (fun i _ => take_small _ i L.ld) (fun H2 s2 => SqT.of (s2 _ _ (s4 _ _ h3))) ?_ ?_ ?_ ?_ ?_
    · rintro i x H2 H3 hi' eD2 s2 ⟨rfl, e4⟩
      obtain ⟨n, hn, rfl⟩ := int_at e4
      exact ⟨rfl, _, rfl, _, rfl, _, rfl, p, _, dx, _, _, rfl, s2 _ _ (s4 _ _ hp), T.cl, T.n4, lf_modulus, _, _, rfl, rfl, (by omega : (0 : Int) < (m : Int)), eD2, s2, take_int hn _⟩
    · exact fun x H' Q Q' h q => h _ _ q
    · exact fun σ2 H2 Q1 Q2 h q => h _ _ q
    · rintro σ2 H2 Q1 Q2 h ⟨x1, g1, i, e1, x3, g3, p', C', dx', fs', v', e3, e4, e5, e6, e7, i2, j2, e8, e9, e10, q⟩
      exact ⟨x1, g1, i, e1, x3, g3, p', C', dx', fs', v', e3, e4, e5, e6, e7, i2, j2, e8, e9, e10, h _ _ q⟩
    intro H5 eD2 s5
    rw [take_all] at eD2
    have s45 := s4.trans s5
    refine ⟨_, rfl, p, _, dx, _, _, rfl, s45 _ _ hp, T.cl, T.n5, lf_ups, a2, rfl, ⟨_, SqT.of (s45 _ _ h2)⟩, fun D3 hD3 => ?_⟩
    refine lc_itF (G := fun H2 => SqT K H2 a2 (us.map V.int)) (walk_tup (K := K) (a := a2) (xs := us.map V.int)) hD3 (fun i => ((us.take i).map fun r => (-r) % (m : Int)).map V.int) rfl (fun i _ => take_small _ i L.lu) (fun H2 s2 => SqT.of (s2 _ _ (s45 _ _ h2))) ?_ ?_ ?_ ?_ ?_
    · rintro i x H2 H3 hi' eD3 s2 ⟨rfl, e4⟩
      obtain ⟨n, hn, rfl⟩ := int_at e4
      exact ⟨rfl, _, rfl, _, rfl, _, rfl, p, _, dx, _, _, rfl, s2 _ _ (s45 _ _ hp), T.cl, T.n4, lf_modulus, _, _, rfl, rfl, (by omega : (0 : Int) < (m : Int)), eD3, s2, take_int hn _⟩
    · exact fun x H' Q Q' h q => h _ _ q
    · exact fun σ2 H2 Q1 Q2 h q => h _ _ q
    · rintro σ2 H2 Q1 Q2 h ⟨x1, g1, i, e1, x3, g3, p', C', dx', fs', v', e3, e4, e5, e6, e7, i2, j2, e8, e9, e10, q⟩
      exact ⟨x1, g1, i, e1, x3, g3, p', C', dx', fs', v', e3, e4, e5, e6, e7, i2, j2, e8, e9, e10, h _ _ q⟩
    intro H6 eD3 s6
    rw [take_all] at eD3
    have s46 := s45.trans s6
    have hp6 := s46 _ _ hp
    refine ⟨_, rfl, p, _, dx, _, _, rfl, hp6, T.cl, T.n2, lf_high, _, rfl, _, rfl, p, _, dx, _, _, rfl, hp6, T.cl, T.n1, lf_low, _, rfl, _, rfl, _, rfl, p, _, dx, _, _, rfl, hp6, T.cl, T.n4, lf_modulus, _, rfl, _, rfl, ?_⟩
    refine ⟨tlOf (-hi) (hi + 1 - lo).toNat (xs.map (-·)) m (ds.map fun r => (-r) % (m : Int)) (us.map fun r => (-r) % (m : Int)), D, D2, D3, _, _, _, ?_, ?_, ?_, ?_, .inl (s6 _ _ (s5 _ _ eD)), .inl (s6 _ _ eD2), .inl eD3, k.same s46⟩
    · rw [tlOf_hi, tlOf_m, show -hi + ((hi + 1 - lo).toNat : Int) - 1 = -lo by omega]
      rfl
    · refine ⟨tlOf_ok mp, by rw [tlOf_m]; exact L.m1, by rw [tlOf_c]; omega, ?_⟩
      show -10 ^ 31 ≤ -hi ∧ -hi ≤ 10 ^ 31
      omega
    · rw [tlOf_c]
      omega
    · refine tlOf_told (fun x hx => ?_) (fun x hx => ?_) (fun x hx => ?_)
      · obtain ⟨y, hy, rfl⟩ := List.mem_map.mp hx
        have := L.i y hy
        omega
      · obtain ⟨y, hy, rfl⟩ := List.mem_map.mp hx
        exact ⟨Int.emod_nonneg _ (by omega), Int.emod_lt_of_pos _ (by omega)⟩
      · obtain ⟨y, hy, rfl⟩ := List.mem_map.mp hx
        exact ⟨Int.emod_nonneg _ (by omega), Int.emod_lt_of_pos _ (by omega)⟩
end
end My
set_option Elab.async false
set_option linter.all false
set_option maxRecDepth 100000
set_option maxHeartbeats 8000000
namespace My
open PySem PySem.Spec PyProof.Rows L2
local macro_rules | `(tactic| walk_at "lv") => `(tactic| first | exact Or.inl rfl | exact Or.inr rfl)
/-! ### a drawn telling and its lot -/
theorem form_in {T : Tl} {lo hi : Int} {m : Nat} (f : IsForm T.has T.U T.D lo hi m) : lo ≤ hi + 1 ∧ hi + 1 - lo ≤ T.cs.length := by
  have sz := f.size
  have hh : T.hi = T.lo + T.cs.length - 1 := rfl
  refine ⟨sz, ?_⟩
  rcases f.ends with ⟨_, _, rfl, rfl⟩ | ⟨h1, _, h3, _, h5⟩
  · omega
  · have b1 : hi ≤ T.hi := Int.not_lt.mp fun z => h1 (Tl.above z)
    rcases h5 with h5 | h5
    · omega
    · have b2 : T.lo ≤ lo := Int.not_lt.mp fun z => h5 (Tl.below z)
      omega
theorem mem_insOf {T : Tl} {lo hi x : Int} (h : x ∈ insOf T lo hi) : lo ≤ x ∧ x ≤ hi := by
  have := (mem_fil.mp h).1
  omega
theorem mem_res0 {f : Int → Bool} {m : Nat} {r : Int} (h : r ∈ resOf f m) : 0 ≤ r ∧ r < m := by
  have := (mem_fil.mp h).1
  omega
theorem lotD_of {T : Tl} {lo hi : Int} {m : Nat} (dr : Drawn T) (f : IsForm T.has T.U T.D lo hi m) (b1 : -20000 ≤ lo) (b2 : hi ≤ 20000) : LotD lo hi (insOf T lo hi) m (resOf T.U m) (resOf T.D m) := by
  have fi := form_in f
  have cm := dr.c
  have um := dr.m
  have lm : m ≤ T.us.length := f.least.le T.m dr.ok.pos dr.ok.pu dr.ok.pd
  have e1 := fil_len T.has lo (hi + 1 - lo).toNat
  have e2 := fil_len T.U 0 m
  have e3 := fil_len T.D 0 m
  exact ⟨fi.1, by omega, b1, b2, fun x h => mem_insOf h, fun r h => mem_res0 h, fun r h => mem_res0 h, f.least.pos, by omega, by unfold insOf; omega, by unfold resOf; omega, by unfold resOf; omega⟩
section
variable {T : Tl} {lo hi : Int} {m : Nat}
theorem moved_eq (ok : T.Ok) (f : IsForm T.has T.U T.D lo hi m) (b : Int) :
    (∀ x, (tlOf (lo + b) (hi + 1 - lo).toNat ((insOf T lo hi).map (· + b)) m ((resOf T.U m).map fun r => (r + b) % (m : Int)) ((resOf T.D m).map fun r => (r + b) % (m : Int))).has x = (T.mv b).has x) ∧
    (∀ x, (tlOf (lo + b) (hi + 1 - lo).toNat ((insOf T lo hi).map (· + b)) m ((resOf T.U m).map fun r => (r + b) % (m : Int)) ((resOf T.D m).map fun r => (r + b) % (m : Int))).U x = (T.mv b).U x) ∧
    (∀ x, (tlOf (lo + b) (hi + 1 - lo).toNat ((insOf T lo hi).map (· + b)) m ((resOf T.U m).map fun r => (r + b) % (m : Int)) ((resOf T.D m).map fun r => (r + b) % (m : Int))).D x = (T.mv b).D x) := by
  have fi := form_in f
  have mp := f.least.pos
  refine ⟨fun x => ?_, fun x => ?_, fun x => ?_⟩
  · rw [tlOf_has mp, show lo + b + ((hi + 1 - lo).toNat : Int) - 1 = hi + b by omega, lot_moved (fun r h => mem_res0 h) (fun r h => mem_res0 h), has_of f, mv_has ok]
  · rw [tlOf_U mp, dec_cong (mem_shift (fun r h => mem_res0 h) b x), mem_resOf f.least.pu mp, mv_U ok]
  · rw [tlOf_D mp, dec_cong (mem_shift (fun r h => mem_res0 h) b x), mem_resOf f.least.pd mp, mv_D ok]
theorem turned_eq (ok : T.Ok) (f : IsForm T.has T.U T.D lo hi m) :
    (∀ x, (tlOf (-hi) (hi + 1 - lo).toNat ((insOf T lo hi).map (-·)) m ((resOf T.D m).map fun r => (-r) % (m : Int)) ((resOf T.U m).map fun r => (-r) % (m : Int))).has x = T.tn.has x) ∧
    (∀ x, (tlOf (-hi) (hi + 1 - lo).toNat ((insOf T lo hi).map (-·)) m ((resOf T.D m).map fun r => (-r) % (m : Int)) ((resOf T.U m).map fun r => (-r) % (m : Int))).U x = T.tn.U x) ∧
    (∀ x, (tlOf (-hi) (hi + 1 - lo).toNat ((insOf T lo hi).map (-·)) m ((resOf T.D m).map fun r => (-r) % (m : Int)) ((resOf T.U m).map fun r => (-r) % (m : Int))).D x = T.tn.D x) := by
  have fi := form_in f
  have mp := f.least.pos
  refine ⟨fun x => ?_, fun x => ?_, fun x => ?_⟩
  · rw [tlOf_has mp, show -hi + ((hi + 1 - lo).toNat : Int) - 1 = -lo by omega, lot_turned fi.1 (fun r h => mem_res0 h) (fun r h => mem_res0 h), has_of f, tn_has ok]
  · rw [tlOf_U mp, dec_cong (mem_turn (fun r h => mem_res0 h) x), mem_resOf f.least.pd mp, tn_U ok]
  · rw [tlOf_D mp, dec_cong (mem_turn (fun r h => mem_res0 h) x), mem_resOf f.least.pu mp, tn_D ok]
/-- the rests that rest_lot gathers are those of the law's window -/
theorem rests_eq (ok : T.Ok) (f : IsForm T.has T.U T.D lo hi m) {n : Nat} (hn : 0 < n) {r : Int} (r0 : 0 ≤ r) (r1 : r < n) :
    RestS (insOf T lo hi) m (resOf T.U m) (resOf T.D m) n r ↔ ∃ x, T.lo - (T.us.length : Int) * n ≤ x ∧ x < T.hi + (T.us.length : Int) * n + 1 ∧ T.has x = true ∧ x % (n : Int) = r := by
  rw [win_iff ok hn r, rest_iff f.least.pos hn (form_in f).1 (fun y h => mem_insOf h) (fun r h => mem_res0 h) (fun r h => mem_res0 h) r0 r1]
  constructor
  · rintro ⟨x, h, e⟩
    exact ⟨x, by rw [← has_of f]; exact h, e⟩
  · rintro ⟨x, h, e⟩
    exact ⟨x, by rw [has_of f]; exact h, e⟩
end
end My
set_option Elab.async false
set_option linter.all false
set_option maxRecDepth 100000
set_option maxHeartbeats 8000000
namespace My
open PySem PySem.Spec PyProof.Rows L2
local macro_rules | `(tactic| walk_at "lv") => `(tactic| first | exact Or.inl rfl | exact Or.inr rfl)
/-! ### y = {k: v for ..} -/
section
variable {X : L2.Cx}
theorem sw_dict {kx vx : Expr} {gs : List Comprehension} {sc : Scope} {pos py : Pos} {y : Str} {l : Nat} {env : Env} (h1 : env.scope.kind = .function) (h2 : env.scope.names.lookup y = some .local) (h3 : (py.line == pos.line) = true)
    (h4 : (sc.names.any fun (n, k) => n == y && (k == .local || k == .cell)) = false) : swapsWith (.DictComp kx vx gs sc pos) (some (.Name y py)) l env = pure true := by
  have b1 : env.kindOf y = some .local := h2
  have b2 : env.blockKind = .function := by unfold Env.blockKind; rw [h1]; rfl
  unfold swapsWith
  simp only [b1, b2, h4, Expr.pos, h3]
  rfl
abbrev Blk (X : L2.Cx) (sc : Scope) (p : L2.Cx → Prop) : Prop := ∀ (s : Shared) (H : Hp) (C : Addr) (cl : List (Str × Addr)) (fp : List Addr), p (X.blk s H sc (compEnvC sc cl C X.env) fp)
theorem ps_setDc {i : Nat} {y : Str} {py : Pos} {kx vx tg iter : Expr} {ifs : List Expr} {sc : Scope} {own : List (Str × Nat)} {pos spos : Pos} {wi : TI} {g : TG} {tt : TT} {tk tv : TE} (c1 : X.calm = true) (c2 : X.N.Nodup) (c3 : X.N[i]? = some y) (c4 : X.env.scope.names.lookup y = some .local)
    (sw : swapsWith (.DictComp kx vx [⟨tg, iter, ifs, 0⟩] sc pos) (some (.Name y py)) spos.line X.env = pure true) (c5 : PI X tg iter wi) (c6 : BlkOk X.N X.env.scope sc own)
    (d1 : Blk X sc fun Y => PG Y tg g) (d2 : Blk X sc fun Y => PTs Y ifs tt) (d3 : Blk X sc fun Y => PE Y kx tk) (d4 : Blk X sc fun Y => PE Y vx tv) (c7 : ∀ x, foldedSetIterable iter X.env x = pure x := by intro _; rfl) :
    PS X (.Assign [.Name y py] (.DictComp kx vx [⟨tg, iter, ifs, 0⟩] sc pos) spos) (tAsg (tDc wi g tt tk tv (own.map (·.2))) (gName i)) := by
  refine ⟨fun pns s σ H D I h => ?_⟩
  rw [exec_Assign_Name_used _ _ _ _ sw]; refine wpAny_bind (wpAny_standAt (wpAny_bind ?_))
  show wpAny _ X.A (do let _ ← comprehension (.DictComp kx vx [⟨tg, iter, ifs, 0⟩] sc pos) sc X.env (firstIterPos [⟨tg, iter, ifs, 0⟩] pos) newDict false (eval iter X.env) (some (assign (.Name y py) X.env))) _ _ s
  have h' : tDc wi g tt tk tv (own.map (·.2)) σ H (fun x H1 => gName i x σ H1 D.nx) := h
  refine wpAny_bind (thn (dc_core (Qf := fun _ s' => SP X pns D .next s') c1 c2 I c5 c6 d1 d2 d3 d4 c7 h' fun L C s' m H' I' q hn f => ?_) fun _ s' hq => wpAny_pure (wpAny_pure hq))
  show wpAny _ _ (assign (.Name y py) X.env (.ref L)) _ _ _; refine wpAny_assign_Name (store_ok2 (v := V.ref L) I' c2 c3 (.inl c4) rfl (fun s2 I2 ⟨a, sb, ha⟩ => ?_) (.inr c4))
  have ⟨f0, f1, f2, f3, f4, f5⟩ := f
  have na : C ≠ a := ha.elim (fun z => by rw [z]; exact f1) fun z e => f4 y a z e.symm
  exact ⟨m, hn.sameBut sb na, fun h3 sb3 => ⟨_, H', I2.turned (t' := s2.toks) (fun b o nb e => (sb3.2 b nb).trans e) f0 f1 f3 f4 f5, q⟩⟩
end
end My
set_option Elab.async false
set_option linter.all false
set_option maxRecDepth 100000
set_option maxHeartbeats 8000000
namespace My
open PySem PySem.Spec PyProof.Rows L2
local macro_rules | `(tactic| walk_at "lv") => `(tactic| first | exact Or.inl rfl | exact Or.inr rfl)
theorem passE {P : Program} {w : World} {X : L2.Cx} : Passes (CX P w) X E0 := fun _ _ _ _ _ _ _ c => by
  obtain ⟨_, _, _, _, _, _, _, _, _, _, _, _, z⟩ := c
  exact z.elim
section
variable {P : Program} {w : World} {K : PySem.W.Frag} {mg : Str → Option Value} {base : Heap}
/-! ### _law_lot_of -/
def spLo (K : PySem.W.Frag) : Sp := fun vs H Q _ => ∃ (t c u d : Addr) (T : Tl) (lo hi : Int) (m : Nat), vs = [.ref t] ∧ TellAt H t T c u d ∧ T.Near ∧ T.cs.length < 1000 ∧ -20000 ≤ T.lo ∧ T.hi ≤ 20000 ∧ IsForm T.has T.U T.D lo hi m ∧ -20000 ≤ lo ∧ hi ≤ 20000 ∧
  ∀ p H', Same H H' → LotAt (He.ga K "Lot") H' p lo hi (insOf T lo hi) m (resOf T.U m) (resOf T.D m) → Q (.ref p) H'
abbrev s_lo : Stmt := top 43
abbrev N_lo : List Str := ["_law_telling", "_law_low", "_law_high", "_law_inside", "_law_modulus", "_law_ups", "_law_downs"]
theorem sc_lo : FnScope N_lo ["_law_telling"] (defScope s_lo) := ⟨rfl, rfl, rfl, by decide +kernel, rfl, by decide +kernel, by decide +kernel⟩
theorem kp_lo (F : At K mg "_law_lot_of" s_lo) (Gp : Keeps CX0 P w K mg base "_law_parts" 1 ["_law_telling"] spParts) (Gm : Keeps (CX P w) P w K mg base "make_lot" 4 ["low", "high", "inside", "modulus", "ups", "downs"] (spMake K)) :
    Keeps CX0 P w K mg base "_law_lot_of" 5 ["_law_telling"] (spLo K) := by
  refine keeps_of F sc_lo (fun _ _ _ _ _ _ us hl => match us, hl with | [_], _ => rfl) (fun vs H Q E h => ?_) (fun f cdv A outer s H vs Q E hr h => ?_)
  · obtain ⟨t, c, u, d, T, lo, hi, m, rfl, _⟩ := h
    rfl
  · obtain ⟨t, c, u, d, T, lo, hi, m, rfl, a, near, hc9, b1, b2, fm, c1, c2, k⟩ := h
    refine ⟨_, (pss_cons (ps_asg (pe_k Gp (hr.mono (by decide)) (by rfl) pass0 (pa_cons (pv 0) pa_nil)) (pg_tup (by rfl) (pgs_cons (pg_name (i := 1) sc_lo.nd rfl (by walk_at "lv")) (pgs_cons (pg_name (i := 2) sc_lo.nd rfl (by walk_at "lv")) (pgs_cons (pg_name (i := 3) sc_lo.nd rfl (by walk_at "lv")) (pgs_cons (pg_name (i := 4) sc_lo.nd rfl (by walk_at "lv")) (pgs_cons (pg_name (i := 5) sc_lo.nd rfl (by walk_at "lv")) (pgs_cons (pg_name (i := 6) sc_lo.nd rfl (by walk_at "lv")) pgs_nil))))))))
        (pss_one (ps_ret (pe_k Gm hr (by rfl) (passE (P := P) (w := w)) (pa_cons (pv 1) (pa_cons (pv 2) (pa_cons (pv 3) (pa_cons (pv 4) (pa_cons (pv 5) (pa_cons (pv 6) pa_nil)))))))))), ?_⟩
    have lens := parts_lens (T := T)
    refine ⟨_, rfl, t, c, u, d, T, rfl, a, near.ok, near.m, near.c, fun q a1 a2 a3 H1 s1 pa _ _ _ => ?_⟩
    refine ⟨q, _, rfl, SqT.of pa.q, rfl, _, _, rfl, _, _, rfl, _, _, rfl, _, _, rfl, _, _, rfl, _, _, rfl, rfl, ?_⟩
    refine ⟨_, rfl, _, rfl, _, rfl, _, rfl, _, rfl, _, rfl, T, a1, a2, a3, cIns T, res T.us, res T.ds, rfl, near, hc9, b1, b2, told_parts near.ok (List.Perm.refl _) (List.Perm.refl _) (List.Perm.refl _), ⟨cIns_nodup T, fil_nodup _ _ _, fil_nodup _ _ _⟩, ⟨Nat.le_trans lens.1 near.c, Nat.le_trans lens.2.1 near.m, ?_⟩, .inl pa.a, .inl pa.b, .inl pa.c, ?_, ?_⟩
    · refine Nat.le_trans lens.2.2 ?_
      rw [near.ok.len]
      exact near.m
    · intro p lo' hi' m' H2 fm' _ _ s2 l
      obtain ⟨rfl, rfl, rfl⟩ := fm.unique fm'
      exact k p H2 (s1.trans s2) l
    · intro lo' hi' m' dd H2 fm' out _ _
      obtain ⟨rfl, rfl, rfl⟩ := fm.unique fm'
      omega
/-! ### _law_is -/
def spIs (K : PySem.W.Frag) : Sp := fun vs H Q _ => ∃ (v : V) (t c u d : Addr) (T : Tl) (lo hi : Int) (m : Nat), vs = [v, .ref t] ∧ TellAt H t T c u d ∧ T.Near ∧ T.us.length ≤ 100 ∧ T.cs.length ≤ 100 ∧ IsForm T.has T.U T.D lo hi m ∧
  ((-20000 ≤ lo ∧ hi ≤ 20000 ∧ ∃ p, v = .ref p ∧ LotAt (He.ga K "Lot") H p lo hi (insOf T lo hi) m (resOf T.U m) (resOf T.D m)) ∨ ((lo < -20000 ∨ 20000 < hi) ∧ v = .str "long")) ∧ ∀ H', Same H H' → Q (.bl true) H'
abbrev s_is : Stmt := top 45
abbrev N_is : List Str := ["_law_told", "_law_telling", "_law_form_here"]
theorem sc_is : FnScope N_is ["_law_told", "_law_telling"] (defScope s_is) := ⟨rfl, rfl, rfl, by decide +kernel, rfl, by decide +kernel, by decide +kernel⟩
theorem kp_is (F : At K mg "_law_is" s_is) (N : Nb mg) (Gf : Keeps CX0 P w K mg base "_law_form" 2 ["_law_telling"] spForm) (Gi : Keeps CX0 P w K mg base "_law_is_form" 3 ["_law_lot", "_law_form_here"] (spIsF (He.ga K "Lot"))) :
    Keeps CX0 P w K mg base "_law_is" 4 ["_law_told", "_law_telling"] (spIs K) := by
  refine keeps_of F sc_is (fun _ _ _ _ _ _ us hl => match us, hl with | [_, _], _ => rfl) (fun vs H Q E h => ?_) (fun f cdv A outer s H vs Q E hr h => ?_)
  · obtain ⟨v, t, c, u, d, T, lo, hi, m, rfl, _⟩ := h
    rfl
  · obtain ⟨v, t, c, u, d, T, lo, hi, m, rfl, a, near, mu, mc, fm, hv, k⟩ := h
    refine ⟨_, (pss_cons (ps_set (i := 2) sc_is.nd rfl (by walk_at "lv") (pe_k Gf (hr.mono (by decide)) (by rfl) pass0 (pa_cons (pv 1) pa_nil)))
        (pss_cons (ps_if (pt_cmpR op_isN (pv 2) pe_non (nomark _)) (pss_one (ps_ret (pe_and (pe_callB call_isi (by rfl) N.isinstance boot_isinstance (pa_cons (pv 0) (pa_cons (pe_bltn (v := .ty "str") (by rfl) N.str (by decide +kernel) rfl) pa_nil))) (pe_one (pe_cmpR op_eq (pv 0) pe_str (nomark _)))))) pss_nil)
        (pss_one (ps_ret (pe_k Gi hr (by rfl) pass0 (pa_cons (pv 0) (pa_cons (pv 2) pa_nil))))))), ?_⟩
    refine ⟨_, rfl, t, c, u, d, T, rfl, a, near, mu, mc, ?_, ?_⟩
    · intro q lo' hi' m' H1 fm' r1 r2 s1 f1
      obtain ⟨rfl, rfl, rfl⟩ := fm.unique fm'
      rcases hv with ⟨_, _, p, rfl, l⟩ | ⟨r3, _⟩
      · refine ⟨_, rfl, rfl, _, rfl, ?_⟩
        rw [show decide (V.ref q = V.non) = false from decide_eq_false (fun z => nomatch z)]
        exact iteF ⟨_, rfl, _, rfl, p, q, lo, hi, m, _, _, _, rfl, l.same s1, f1, rows_ok, fun H2 s2 => k H2 (s1.trans s2)⟩
      · omega
    · intro lo' hi' m' H1 fm' out s1
      obtain ⟨rfl, rfl, rfl⟩ := fm.unique fm'
      rcases hv with ⟨r1, r2, _⟩ | ⟨_, rfl⟩
      · omega
      · refine ⟨_, rfl, rfl, _, rfl, ?_⟩
        rw [show decide (V.non = V.non) = true from decide_eq_true rfl]
        refine iteT ⟨_, rfl, .str "long", .ty "str", _, _, true, rfl, .ty "str", .base (.str _), kit_ty (by decide +kernel), ?_⟩
        refine ⟨_, rfl, iteT ⟨_, rfl, rfl, ?_⟩⟩
        have e : decide (V.str ("long" : Str) = V.str ("long" : Str)) = true := decide_eq_true rfl
        show Q (V.bl (decide (V.str ("long" : Str) = V.str ("long" : Str)))) H1
        rw [e]
        exact k H1 s1
end
end My
set_option Elab.async false
set_option linter.all false
set_option maxRecDepth 100000
set_option maxHeartbeats 8000000
namespace My
open PySem PySem.Spec PyProof.Rows L2
local macro_rules | `(tactic| walk_at "lv") => `(tactic| first | exact Or.inl rfl | exact Or.inr rfl)
section
variable {P : Program} {w : World} {K : PySem.W.Frag} {mg : Str → Option Value} {base : Heap}
/-! ### Lot.__init__ of three tuples; empty_lot, whole_lot -/
def spLotJ (C : Addr) : Sp := fun vs H Q _ => ∃ (p dx a b c : Addr) (lo hi : Int) (m : Nat) (xs us ds : List Int), vs = [.ref p, .int lo, .int hi, .ref a, .int m, .ref b, .ref c] ∧ H p = some (.ins C dx []) ∧
  H a = some (.tup (xs.map V.int)) ∧ H b = some (.tup (us.map V.int)) ∧ H c = some (.tup (ds.map V.int)) ∧
  ∀ H', LotAt C H' p lo hi xs m us ds → (∀ x o, x ≠ p → H x = some o → H' x = some o) → Q .non H'
theorem kp_lotJ {C g : Addr} (F : AtM K C g "__init__" "Lot.__init__" s_lotI) (T : LotTxt K mg C) (N : Nb mg) : KeepsM P w K mg base g 1 ["self", "low", "high", "inside", "modulus", "ups", "downs"] (spLotJ C) := by
  refine keepsM_of F sc_lotI (fun _ _ _ _ _ _ us hl => match us, hl with | [_, _, _, _, _, _, _], _ => rfl) (fun vs H Q E h => ?_) (fun cdv A outer s H vs Q E hr h => ?_)
  · obtain ⟨p, dx, a, b, c, lo, hi, m, xs, us, ds, rfl, _⟩ := h
    rfl
  · obtain ⟨p, dx, a, b, c, lo, hi, m, xs, us, ds, rfl, hp, ha, hb, hc, k⟩ := h
    refine ⟨_, (pss_cons (ps_fld (pv 0) (pv 1) rfl)
        (pss_cons (ps_fld (pv 0) (pv 2) rfl)
        (pss_cons (ps_fld (pv 0) (pe_callTy call_tuple_of (by rfl) N.tuple (by decide +kernel) (pa_cons (pv 3) pa_nil)) rfl)
        (pss_cons (ps_fld (pv 0) (pv 4) rfl)
        (pss_cons (ps_fld (pv 0) (pe_callTy call_tuple_of (by rfl) N.tuple (by decide +kernel) (pa_cons (pv 5) pa_nil)) rfl)
        (pss_one (ps_fld (pv 0) (pe_callTy call_tuple_of (by rfl) N.tuple (by decide +kernel) (pa_cons (pv 6) pa_nil)) rfl))))))), ?_⟩
    have pa : a ≠ p := ne_of ha hp (by intro z; cases z)
    have pb : b ≠ p := ne_of hb hp (by intro z; cases z)
    have pc : c ≠ p := ne_of hc hp (by intro z; cases z)
    have f1 : (putF "low" (V.int lo) []).length ≤ 1 := putF_small (Nat.le_refl 0)
    have f2 := putF_small (f := "high") (v := V.int hi) f1
    have f3 := putF_small (f := "inside") (v := V.ref a) f2
    have f4 := putF_small (f := "modulus") (v := V.int m) f3
    have f5 := putF_small (f := "ups") (v := V.ref b) f4
    refine ⟨_, rfl, _, rfl, p, C, dx, _, rfl, hp, T.cl, T.n1, (by show 0 < 1000; decide), ?_⟩
    refine ⟨_, rfl, _, rfl, p, C, dx, _, rfl, upd_same, T.cl, T.n2, (by omega), ?_⟩
    refine ⟨_, rfl, a, _, rfl, .inr ⟨SqT.of (by rw [upd_ne pa, upd_ne pa]; exact ha), ?_⟩⟩
    refine ⟨_, rfl, p, C, dx, _, rfl, upd_same, T.cl, T.n3, (by omega), ?_⟩
    refine ⟨_, rfl, _, rfl, p, C, dx, _, rfl, upd_same, T.cl, T.n4, (by omega), ?_⟩
    refine ⟨_, rfl, b, _, rfl, .inr ⟨SqT.of (by rw [upd_ne pb, upd_ne pb, upd_ne pb, upd_ne pb]; exact hb), ?_⟩⟩
    refine ⟨_, rfl, p, C, dx, _, rfl, upd_same, T.cl, T.n5, (by omega), ?_⟩
    refine ⟨_, rfl, c, _, rfl, .inr ⟨SqT.of (by rw [upd_ne pc, upd_ne pc, upd_ne pc, upd_ne pc, upd_ne pc]; exact hc), ?_⟩⟩
    refine ⟨_, rfl, p, C, dx, _, rfl, upd_same, T.cl, T.n6, (by omega), ?_⟩
    refine k _ ⟨dx, a, b, c, upd_same, ?_, ?_, ?_⟩ fun x o hx e => ?_
    · rw [upd_ne pa, upd_ne pa, upd_ne pa, upd_ne pa, upd_ne pa, upd_ne pa]; exact ha
    · rw [upd_ne pb, upd_ne pb, upd_ne pb, upd_ne pb, upd_ne pb, upd_ne pb]; exact hb
    · rw [upd_ne pc, upd_ne pc, upd_ne pc, upd_ne pc, upd_ne pc, upd_ne pc]; exact hc
    · rw [upd_ne hx, upd_ne hx, upd_ne hx, upd_ne hx, upd_ne hx, upd_ne hx]; exact e
def spLit (K : PySem.W.Frag) (us ds : List Int) : Sp := fun vs H Q _ => vs = [] ∧ ∀ p H', Same H H' → LotAt (He.ga K "Lot") H' p 0 (-1) [] 1 us ds → Q (.ref p) H'
abbrev s_emp : Stmt := top 24
theorem sc_emp : FnScope [] [] (defScope s_emp) := ⟨rfl, rfl, rfl, by decide +kernel, rfl, by decide +kernel, by decide +kernel⟩
theorem kp_emp (F : At K mg "empty_lot" s_emp) (S : Lots P w K mg base) (J : KeepsM P w K mg base (He.ma K (He.ga K "Lot") "__init__") 1 ["self", "low", "high", "inside", "modulus", "ups", "downs"] (spLotJ (He.ga K "Lot"))) :
    Keeps CX0 P w K mg base "empty_lot" 3 [] (spLit K [] []) := by
  obtain ⟨fdI, FI, bI⟩ := J
  refine keeps_of F sc_emp (fun _ _ _ _ _ _ us hl => match us, hl with | [], _ => rfl) (fun vs H Q E h => ?_) (fun f cdv A outer s H vs Q E hr h => ?_)
  · obtain ⟨rfl, _⟩ := h
    rfl
  · obtain ⟨rfl, k⟩ := h
    refine ⟨_, (pss_one (ps_ret (pe_make S.m FI hr (by rfl) S.t.mgC bI .nil pass0 (pa_cons pe_int (pa_cons (pe_un un_neg pe_int) (pa_cons (pe_tup pa_nil) (pa_cons pe_int (pa_cons (pe_tup pa_nil) (pa_cons (pe_tup pa_nil) pa_nil))))))))), ?_⟩
    have z0 : (0 : Nat) ≤ sizeLine := Nat.zero_le _
    refine ⟨_, rfl, z0, fun a ha => ⟨z0, fun b hb => ⟨z0, fun c hc => ?_⟩⟩⟩
    intro x dx hx hdx ne
    have ab : a ≠ b := ne_of_none upd_same hb
    have bc : b ≠ c := ne_of_none upd_same hc
    have ac : a ≠ c := ne_of_none (by rw [upd_ne ab]; exact upd_same) hc
    have sx : ∀ q o, (upd (upd (upd H a (.tup [])) b (.tup [])) c (.tup [])) q = some o → (upd (upd (upd (upd (upd H a (.tup [])) b (.tup [])) c (.tup [])) dx (.own x)) x (.ins (He.ga K "Lot") dx [])) q = some o := fun q o e => by
      rw [upd_ne (ne_of_none e hx), upd_ne (ne_of_none e hdx)]
      exact e
    refine ⟨x, dx, a, b, c, 0, -1, 1, [], [], [], rfl, upd_same, sx _ _ (by rw [upd_ne ac, upd_ne ab]; exact upd_same), sx _ _ (by rw [upd_ne bc]; exact upd_same), sx _ _ upd_same, fun H7 la keep => ⟨rfl, ?_⟩⟩
    refine k x H7 (fun q o e => ?_) la
    have s3 := same_new (o := .tup []) (same_new (o := .tup []) (same_new (o := .tup []) (Same.refl H) ha) hb) hc
    exact keep q o (ne_of_none (s3 _ _ e) hx) (sx _ _ (s3 _ _ e))
abbrev s_whl : Stmt := top 25
theorem sc_whl : FnScope [] [] (defScope s_whl) := ⟨rfl, rfl, rfl, by decide +kernel, rfl, by decide +kernel, by decide +kernel⟩
theorem kp_whl (F : At K mg "whole_lot" s_whl) (S : Lots P w K mg base) (J : KeepsM P w K mg base (He.ma K (He.ga K "Lot") "__init__") 1 ["self", "low", "high", "inside", "modulus", "ups", "downs"] (spLotJ (He.ga K "Lot"))) :
    Keeps CX0 P w K mg base "whole_lot" 3 [] (spLit K [0] [0]) := by
  obtain ⟨fdI, FI, bI⟩ := J
  refine keeps_of F sc_whl (fun _ _ _ _ _ _ us hl => match us, hl with | [], _ => rfl) (fun vs H Q E h => ?_) (fun f cdv A outer s H vs Q E hr h => ?_)
  · obtain ⟨rfl, _⟩ := h
    rfl
  · obtain ⟨rfl, k⟩ := h
    refine ⟨_, (pss_one (ps_ret (pe_make S.m FI hr (by rfl) S.t.mgC bI .nil pass0 (pa_cons pe_int (pa_cons (pe_un un_neg pe_int) (pa_cons (pe_tup pa_nil) (pa_cons pe_int (pa_cons (pe_tup (pa_cons pe_int pa_nil)) (pa_cons (pe_tup (pa_cons pe_int pa_nil)) pa_nil))))))))), ?_⟩
    have z0 : (0 : Nat) ≤ sizeLine := Nat.zero_le _
    have z1 : (1 : Nat) ≤ sizeLine := by decide
    refine ⟨_, rfl, z0, fun a ha => ⟨z1, fun b hb => ⟨z1, fun c hc => ?_⟩⟩⟩
    intro x dx hx hdx ne
    have ab : a ≠ b := ne_of_none upd_same hb
    have bc : b ≠ c := ne_of_none upd_same hc
    have ac : a ≠ c := ne_of_none (by rw [upd_ne ab]; exact upd_same) hc
    have sx : ∀ q o, (upd (upd (upd H a (.tup [])) b (.tup [.int 0])) c (.tup [.int 0])) q = some o → (upd (upd (upd (upd (upd H a (.tup [])) b (.tup [.int 0])) c (.tup [.int 0])) dx (.own x)) x (.ins (He.ga K "Lot") dx [])) q = some o := fun q o e => by
      rw [upd_ne (ne_of_none e hx), upd_ne (ne_of_none e hdx)]
      exact e
    refine ⟨x, dx, a, b, c, 0, -1, 1, [], [0], [0], rfl, upd_same, sx _ _ (by rw [upd_ne ac, upd_ne ab]; exact upd_same), sx _ _ (by rw [upd_ne bc]; exact upd_same), sx _ _ upd_same, fun H7 la keep => ⟨rfl, ?_⟩⟩
    refine k x H7 (fun q o e => ?_) la
    have s3 := same_new (o := .tup [.int 0]) (same_new (o := .tup [.int 0]) (same_new (o := .tup []) (Same.refl H) ha) hb) hc
    exact keep q o (ne_of_none (s3 _ _ e) hx) (sx _ _ (s3 _ _ e))
end
end My
set_option Elab.async false
set_option linter.all false
set_option maxRecDepth 100000
set_option maxHeartbeats 8000000
namespace My
open PySem PySem.Spec PyProof.Rows L2
local macro_rules | `(tactic| walk_at "lv") => `(tactic| first | exact Or.inl rfl | exact Or.inr rfl)
section
variable {P : Program} {w : World} {K : PySem.W.Frag} {mg : Str → Option Value} {base : Heap}
/-! ### just_lot, range_lot -/
theorem num_told {lo : Int} {n : Nat} {ns : List Int} (h : ∀ x ∈ ns, lo ≤ x ∧ x ≤ lo + n - 1) : Told (tlOf lo n ns 1 [] []) ns [] [] := tlOf_told h (fun _ z => nomatch z) (fun _ z => nomatch z)
def spJust (K : PySem.W.Frag) : Sp := fun vs H Q E => ∃ (a : Addr) (ns : List Int), vs = [.ref a] ∧ H a = some (.lst (ns.map V.int)) ∧ (∀ n ∈ ns, -20000 ≤ n ∧ n ≤ 20000) ∧ (∀ x ∈ ns, ∀ y ∈ ns, y - x < 900) ∧
  (ns = [] → ∀ p H', Same H H' → LotAt (He.ga K "Lot") H' p 0 (-1) [] 1 [] [] → Q (.ref p) H') ∧
  ∀ lo hi, lo ∈ ns → (∀ y ∈ ns, lo ≤ y) → hi ∈ ns → (∀ y ∈ ns, y ≤ hi) → LotEnd K (tlOf lo (hi + 1 - lo).toNat ns 1 [] []) H Q E
abbrev s_just : Stmt := top 26
abbrev N_just : List Str := ["numbers"]
theorem sc_just : FnScope N_just ["numbers"] (defScope s_just) := ⟨rfl, rfl, rfl, by decide +kernel, rfl, by decide +kernel, by decide +kernel⟩
theorem pe_k0 {X : L2.Cx} {CX : CXT} {k : Nat} {sp : Sp} {E : XK} {x : Str} {p pos : Pos} (h : Keeps CX X.prog X.w X.K X.mg X.base x k [] sp) (hr : Room k X.A) (hg : Gl X x) (hx : Passes CX X E) (dbg : (x == ("__debug__" : Str)) = false := by decide) :
    PE X (.Call (.Name x p) [] [] pos) (tCall sp [] E tNil) := by
  obtain ⟨fd, F, b, kp, m⟩ := h
  exact pe_call0 F hr hg m kp b .nil hx dbg
theorem kp_just (F : At K mg "just_lot" s_just) (nMin : mg "min" = none) (nMax : mg "max" = none) (Ge : Keeps CX0 P w K mg base "empty_lot" 3 [] (spLit K [] [])) (Gl_ : Keeps (CX P w) P w K mg base "_lot_of" 3 ["low", "high", "inside", "modulus", "ups", "downs"] (spLotOf K)) :
    Keeps (CX P w) P w K mg base "just_lot" 4 ["numbers"] (spJust K) := by
  refine keeps_ofX F sc_just (fun _ _ _ _ _ _ us hl => match us, hl with | [_], _ => rfl) (fun vs H Q E h => ?_) (fun f cdv A outer s H vs Q E hr h => ?_)
  · obtain ⟨a, ns, rfl, _⟩ := h
    rfl
  · obtain ⟨a, ns, rfl, ha, b, far, k0, k⟩ := h
    refine ⟨_, (pss_cons (ps_if (pt_not (pt_truth (pv 0) (by intro _; rfl))) (pss_one (ps_ret (pe_k0 Ge hr (by rfl) pass0))) pss_nil)
        (pss_one (ps_ret (pe_k Gl_ hr (by rfl) (passes_call (takes_of rfl rfl rfl rfl) (fun _ _ _ _ h => h)) (pa_cons (pe_callB (cr_min (by rfl)) (by rfl) nMin (by decide +kernel) (pa_cons (pv 0) pa_nil)) (pa_cons (pe_callB (cr_max (by rfl)) (by rfl) nMax (by decide +kernel) (pa_cons (pv 0) pa_nil)) (pa_cons (pv 0) (pa_cons pe_int (pa_cons (pe_tup pa_nil) (pa_cons (pe_tup pa_nil) pa_nil)))))))))), ?_⟩
    refine ⟨_, rfl, !(ns.map V.int).isEmpty, .inl ⟨_, SqL.of ha, rfl⟩, ?_⟩
    cases ns with
    | nil =>
      refine iteT ⟨rfl, fun p H1 s1 l => k0 rfl p H1 s1 l⟩
    | cons n0 nr =>
      refine iteF ⟨_, rfl, a, n0 :: nr, rfl, SqL.of ha, Nat.succ_pos _, fun lo hlo llo => ⟨_, rfl, a, n0 :: nr, rfl, SqL.of ha, Nat.succ_pos _, fun hi hhi lhi => ⟨_, rfl, Nat.zero_le _, fun u hu => ⟨Nat.zero_le _, fun d hd => ?_⟩⟩⟩⟩
      have f0 := far lo hlo hi hhi
      have l0 := llo hi hhi
      have b1 := b lo hlo
      have s2 := same_new (o := .tup []) (same_new (o := .tup []) (Same.refl H) hu) hd
      have ud : u ≠ d := ne_of_none upd_same hd
      refine ⟨tlOf lo (hi + 1 - lo).toNat (n0 :: nr) 1 [] [], a, u, d, n0 :: nr, [], [], ?_, ?_, ?_, ?_, .inl (s2 _ _ ha), .inr (by rw [upd_ne ud]; exact upd_same), .inr upd_same, (k lo hi hlo llo hhi lhi).same s2⟩
      · rw [tlOf_hi, tlOf_m, show lo + ((hi + 1 - lo).toNat : Int) - 1 = hi by omega]
        rfl
      · refine ⟨tlOf_ok (by decide), by rw [tlOf_m]; decide, by rw [tlOf_c]; omega, ?_⟩
        show -10 ^ 31 ≤ lo ∧ lo ≤ 10 ^ 31
        omega
      · rw [tlOf_c]
        omega
      · exact num_told fun x hx => ⟨llo x hx, by have := lhi x hx; omega⟩
end
end My
set_option Elab.async false
set_option linter.all false
set_option maxRecDepth 100000
set_option maxHeartbeats 8000000
namespace My
open PySem PySem.Spec PyProof.Rows L2
local macro_rules | `(tactic| walk_at "lv") => `(tactic| first | exact Or.inl rfl | exact Or.inr rfl)
section
variable {P : Program} {w : World} {K : PySem.W.Frag} {mg : Str → Option Value} {base : Heap}
/-! ### range_lot -/
theorem rgV_irow (a b : Int) : rgV a b = (irow a (b - a).toNat).map V.int := by
  unfold rgV irow
  rw [List.map_map]
  rfl
theorem half_told {lo : Int} {us ds : List Int} (hu : ∀ x ∈ us, 0 ≤ x ∧ x < ((1 : Nat) : Int)) (hd : ∀ x ∈ ds, 0 ≤ x ∧ x < ((1 : Nat) : Int)) : Told (tlOf lo 0 [] 1 us ds) [] us ds := tlOf_told (fun _ z => nomatch z) hu hd
def spRange (K : PySem.W.Frag) : Sp := fun vs H Q E =>
  (vs = [.non, .non] ∧ ∀ p H', Same H H' → LotAt (He.ga K "Lot") H' p 0 (-1) [] 1 [0] [0] → Q (.ref p) H') ∨
  (∃ h : Int, vs = [.non, .int h] ∧ (-20000 ≤ h ∧ h ≤ 20000) ∧ LotEnd K (tlOf (h + 1) 0 [] 1 [] [0]) H Q E) ∨
  (∃ l : Int, vs = [.int l, .non] ∧ (-20000 ≤ l ∧ l ≤ 20000) ∧ LotEnd K (tlOf l 0 [] 1 [0] []) H Q E) ∨
  (∃ l h : Int, vs = [.int l, .int h] ∧ h < l ∧ ∀ p H', Same H H' → LotAt (He.ga K "Lot") H' p 0 (-1) [] 1 [] [] → Q (.ref p) H') ∨
  ∃ l h : Int, vs = [.int l, .int h] ∧ l ≤ h ∧ h - l < 900 ∧ (-20000 ≤ l ∧ h ≤ 20000) ∧ LotEnd K (tlOf l (h + 1 - l).toNat (irow l (h + 1 - l).toNat) 1 [] []) H Q E
abbrev s_range : Stmt := top 27
abbrev N_range : List Str := ["low", "high"]
theorem sc_range : FnScope N_range ["low", "high"] (defScope s_range) := ⟨rfl, rfl, rfl, by decide +kernel, rfl, by decide +kernel, by decide +kernel⟩
theorem kp_range (F : At K mg "range_lot" s_range) (N : Nb mg) (Ge : Keeps CX0 P w K mg base "empty_lot" 3 [] (spLit K [] [])) (Gw : Keeps CX0 P w K mg base "whole_lot" 3 [] (spLit K [0] [0])) (Gl_ : Keeps (CX P w) P w K mg base "_lot_of" 3 ["low", "high", "inside", "modulus", "ups", "downs"] (spLotOf K)) :
    Keeps (CX P w) P w K mg base "range_lot" 4 ["low", "high"] (spRange K) := by
  refine keeps_ofX F sc_range (fun _ _ _ _ _ _ us hl => match us, hl with | [_, _], _ => rfl) (fun vs H Q E h => ?_) (fun f cdv A outer s H vs Q E hr h => ?_)
  · rcases h with ⟨rfl, _⟩ | ⟨h, rfl, _⟩ | ⟨l, rfl, _⟩ | ⟨l, h, rfl, _⟩ | ⟨l, h, rfl, _⟩ <;> rfl
  · have hx : Passes (CX P w) (cxOf (CX P w) P w K mg base N_range "range_lot" (defScope s_range) f cdv A outer s H E) E := passes_call (takes_of rfl rfl rfl rfl) (fun _ _ _ _ h => h)
    obtain ⟨x, y, rfl⟩ : ∃ x y, vs = [x, y] := by
      rcases h with ⟨rfl, _⟩ | ⟨h, rfl, _⟩ | ⟨l, rfl, _⟩ | ⟨l, h, rfl, _⟩ | ⟨l, h, rfl, _⟩ <;> exact ⟨_, _, rfl⟩
    refine ⟨_, (pss_cons (ps_if (PW.pt (pw_and (pt_cmpR op_isN (pv 0) pe_non (nomark _)) (pw_and1 (pt_cmpR op_isN (pv 1) pe_non (nomark _))))) (pss_one (ps_ret (pe_k0 Gw hr (by rfl) pass0))) pss_nil)
        (pss_cons (ps_if (pt_cmpR op_isN (pv 0) pe_non (nomark _)) (pss_one (ps_ret (pe_k Gl_ hr (by rfl) hx (pa_cons (pe_op op_add (pv 1) pe_int) (pa_cons (pv 1) (pa_cons (pe_tup pa_nil) (pa_cons pe_int (pa_cons (pe_tup pa_nil) (pa_cons (pe_tup (pa_cons pe_int pa_nil)) pa_nil))))))))) pss_nil)
        (pss_cons (ps_if (pt_cmpR op_isN (pv 1) pe_non (nomark _)) (pss_one (ps_ret (pe_k Gl_ hr (by rfl) hx (pa_cons (pv 0) (pa_cons (pe_op op_sub (pv 0) pe_int) (pa_cons (pe_tup pa_nil) (pa_cons pe_int (pa_cons (pe_tup (pa_cons pe_int pa_nil)) (pa_cons (pe_tup pa_nil) pa_nil))))))))) pss_nil)
        (pss_cons (ps_if (pt_cmpR op_gt (pv 0) (pv 1) (nomark _)) (pss_one (ps_ret (pe_k0 Ge hr (by rfl) pass0))) pss_nil)
        (pss_one (ps_ret (pe_k Gl_ hr (by rfl) hx (pa_cons (pv 0) (pa_cons (pv 1) (pa_cons (pe_listRg (by rfl) (by rfl) N.list (prg_2 (by rfl) N.range (pv 0) (pe_op op_add (pv 1) pe_int))) (pa_cons pe_int (pa_cons (pe_tup pa_nil) (pa_cons (pe_tup pa_nil) pa_nil))))))))))))), ?_⟩
    have tt : decide (V.non = V.non) = true := decide_eq_true rfl
    have ti : ∀ i : Int, decide (V.int i = V.non) = false := fun i => decide_eq_false (fun z => nomatch z)
    have z0 : (0 : Nat) ≤ sizeLine := Nat.zero_le _
    have z1 : (1 : Nat) ≤ sizeLine := by decide
    have nr : ∀ (lo : Int) (n : Nat) (xs us ds : List Int), n < 1000 → -30000 ≤ lo → lo ≤ 30000 → (tlOf lo n xs 1 us ds).Near := fun lo n xs us ds h1 h2 h3 => ⟨tlOf_ok (by decide), by rw [tlOf_m]; decide, by rw [tlOf_c]; omega, (by show -10 ^ 31 ≤ lo ∧ lo ≤ 10 ^ 31; omega)⟩
    rcases h with ⟨e, k⟩ | ⟨h, e, b, k⟩ | ⟨l, e, b, k⟩ | ⟨l, h, e, lh, k⟩ | ⟨l, h, e, lh, sz, b, k⟩
    · obtain ⟨rfl, rfl⟩ : x = .non ∧ y = .non := by
        cases e
        exact ⟨rfl, rfl⟩
      refine ⟨_, rfl, rfl, _, rfl, ?_⟩
      rw [tt]
      refine iteT ⟨_, rfl, rfl, _, rfl, ?_⟩
      rw [tt]
      exact iteT ⟨rfl, k⟩
    · obtain ⟨rfl, rfl⟩ : x = .non ∧ y = .int h := by
        cases e
        exact ⟨rfl, rfl⟩
      refine ⟨_, rfl, rfl, _, rfl, ?_⟩
      rw [tt]
      refine iteT ⟨_, rfl, rfl, _, rfl, ?_⟩
      rw [ti]
      refine iteF ⟨_, rfl, rfl, _, rfl, ?_⟩
      rw [tt]
      refine iteT ⟨_, rfl, _, _, rfl, rfl, _, rfl, z0, fun a ha => ⟨z0, fun u hu => ⟨z1, fun d hd => ?_⟩⟩⟩
      have au : a ≠ u := ne_of_none upd_same hu
      have ud : u ≠ d := ne_of_none upd_same hd
      have ad : a ≠ d := ne_of_none (by rw [upd_ne au]; exact upd_same) hd
      have s3 := same_new (o := .tup [.int 0]) (same_new (o := .tup []) (same_new (o := .tup []) (Same.refl H) ha) hu) hd
      refine ⟨tlOf (h + 1) 0 [] 1 [] [0], a, u, d, [], [], [0], ?_, nr _ _ _ _ _ (by omega) (by omega) (by omega), by rw [tlOf_c]; omega, half_told (fun _ z => nomatch z) (by decide), .inr (by rw [upd_ne ad, upd_ne au]; exact upd_same), .inr (by rw [upd_ne ud]; exact upd_same), .inr upd_same, k.same s3⟩
      rw [tlOf_hi, tlOf_m, show h + 1 + ((0 : Nat) : Int) - 1 = h by omega]
      rfl
    · obtain ⟨rfl, rfl⟩ : x = .int l ∧ y = .non := by
        cases e
        exact ⟨rfl, rfl⟩
      refine ⟨_, rfl, rfl, _, rfl, ?_⟩
      rw [ti]
      refine iteF ⟨_, rfl, rfl, _, rfl, ?_⟩
      rw [ti]
      refine iteF ⟨_, rfl, rfl, _, rfl, ?_⟩
      rw [tt]
      refine iteT ⟨_, rfl, _, rfl, _, _, rfl, rfl, z0, fun a ha => ⟨z1, fun u hu => ⟨z0, fun d hd => ?_⟩⟩⟩
      have au : a ≠ u := ne_of_none upd_same hu
      have ud : u ≠ d := ne_of_none upd_same hd
      have ad : a ≠ d := ne_of_none (by rw [upd_ne au]; exact upd_same) hd
      have s3 := same_new (o := .tup []) (same_new (o := .tup [.int 0]) (same_new (o := .tup []) (Same.refl H) ha) hu) hd
      refine ⟨tlOf l 0 [] 1 [0] [], a, u, d, [], [0], [], ?_, nr _ _ _ _ _ (by omega) (by omega) (by omega), by rw [tlOf_c]; omega, half_told (by decide) (fun _ z => nomatch z), .inr (by rw [upd_ne ad, upd_ne au]; exact upd_same), .inr (by rw [upd_ne ud]; exact upd_same), .inr upd_same, k.same s3⟩
      rw [tlOf_hi, tlOf_m, show l + ((0 : Nat) : Int) - 1 = l - 1 by omega]
      rfl
    · obtain ⟨rfl, rfl⟩ : x = .int l ∧ y = .int h := by
        cases e
        exact ⟨rfl, rfl⟩
      refine ⟨_, rfl, rfl, _, rfl, ?_⟩
      rw [ti]
      refine iteF ⟨_, rfl, rfl, _, rfl, ?_⟩
      rw [ti]
      refine iteF ⟨_, rfl, rfl, _, rfl, ?_⟩
      rw [ti]
      refine iteF ⟨_, rfl, _, rfl, _, _, rfl, rfl, _, rfl, ?_⟩
      rw [decide_eq_true (by omega : l > h)]
      exact iteT ⟨rfl, k⟩
    · obtain ⟨rfl, rfl⟩ : x = .int l ∧ y = .int h := by
        cases e
        exact ⟨rfl, rfl⟩
      refine ⟨_, rfl, rfl, _, rfl, ?_⟩
      rw [ti]
      refine iteF ⟨_, rfl, rfl, _, rfl, ?_⟩
      rw [ti]
      refine iteF ⟨_, rfl, rfl, _, rfl, ?_⟩
      rw [ti]
      refine iteF ⟨_, rfl, _, rfl, _, _, rfl, rfl, _, rfl, ?_⟩
      rw [decide_eq_false (by omega : ¬ l > h)]
      refine iteF ⟨_, rfl, _, rfl, _, rfl, _, rfl, _, _, rfl, rfl, _, _, rfl, rfl, ⟨by omega, by omega, by omega, by omega, by omega⟩, fun a ha => ⟨z0, fun u hu => ⟨z0, fun d hd => ?_⟩⟩⟩
      have au : a ≠ u := ne_of_none upd_same hu
      have ud : u ≠ d := ne_of_none upd_same hd
      have ad : a ≠ d := ne_of_none (by rw [upd_ne au]; exact upd_same) hd
      have s3 := same_new (o := .tup []) (same_new (o := .tup []) (same_new (o := .lst (rgV l (h + 1))) (Same.refl H) ha) hu) hd
      refine ⟨tlOf l (h + 1 - l).toNat (irow l (h + 1 - l).toNat) 1 [] [], a, u, d, irow l (h + 1 - l).toNat, [], [], ?_, nr _ _ _ _ _ (by omega) (by omega) (by omega), by rw [tlOf_c]; omega, num_told (fun x hx => by have := mem_irow.mp hx; omega), .inl (by rw [upd_ne ad, upd_ne au, ← rgV_irow]; exact upd_same), .inr (by rw [upd_ne ud]; exact upd_same), .inr upd_same, k.same s3⟩
      rw [tlOf_hi, tlOf_m, show l + ((h + 1 - l).toNat : Int) - 1 = h by omega]
      rfl
end
end My
set_option Elab.async false
set_option linter.all false
set_option maxRecDepth 100000
set_option maxHeartbeats 8000000
namespace My
open PySem PySem.Spec PyProof.Rows L2
local macro_rules | `(tactic| walk_at "lv") => `(tactic| first | exact Or.inl rfl | exact Or.inr rfl)
/-! ### rest_lot -/
theorem RgC_pos {a b c : Int} (h0 : 0 ≤ a) (hab : a < b) (hb : b ≤ 100) (hc : 0 < c) (hc1 : c ≤ 100) : RgC a b c ((b - a - 1) / c + 1).toNat := by
  have q0 : 0 ≤ (b - a - 1) / c := Int.ediv_nonneg (by omega) (by omega)
  have q1 : (b - a - 1) / c ≤ b - a - 1 := Int.ediv_le_self _ (by omega)
  have e : Builtin.Range.rangeSize a b c = (b - a - 1) / c + 1 := by
    unfold Builtin.Range.rangeSize; rw [if_pos (show c > 0 from hc), if_pos hab]
  refine ⟨by omega, by omega, ?_, by rw [e]; omega⟩
  unfold Builtin.Range.small
  rw [e]
  generalize (b - a - 1) / c = z at *
  simp only [Builtin.Range.rangeFitsLong, Bool.and_eq_true, Bool.or_eq_true, decide_eq_true_eq, beq_iff_eq, if_pos (show c > 0 from hc)]
  omega
def rowsD (ks : List Int) : List (Key × V) := ks.map fun k => ((Sum.inl k : Key), V.bl true)
theorem rows_len (ks : List Int) : (rowsD ks).length = ks.length := List.length_map _
theorem put_rows (ks : List Int) (k : Int) : putK (rowsD ks) (Sum.inl k : Key) (V.bl true) = rowsD (if k ∈ ks then ks else ks ++ [k]) := by
  unfold putK
  have e : ((rowsD ks).any fun kv => decide (kv.1 = (Sum.inl k : Key))) = decide (k ∈ ks) := by
    unfold rowsD
    rw [List.any_map]
    induction ks with
    | nil => rfl
    | cons x r ih =>
      rw [List.any_cons, ih]
      by_cases h : x = k
      · subst h; simp
      · simp [h, Ne.symm h]
  rw [e]
  by_cases h : k ∈ ks
  · rw [decide_eq_true h, if_pos rfl, if_pos h]
    unfold rowsD
    rw [List.map_map]
    refine List.map_congr_left fun y _ => ?_
    show (if (Sum.inl y : Key) = Sum.inl k then ((Sum.inl y : Key), V.bl true) else (Sum.inl y, V.bl true)) = _
    split <;> rfl
  · rw [decide_eq_false h, if_neg (by decide), if_neg h]
    unfold rowsD
    rw [List.map_append]
    rfl
theorem nodup_len : ∀ (n : Nat) (l : List Int), l.Nodup → (∀ x ∈ l, 0 ≤ x ∧ x < n) → l.length ≤ n
  | 0, l, _, h => by
    cases l with
    | nil => exact Nat.le_refl _
    | cons x r => have := h x List.mem_cons_self; omega
  | n + 1, l, nd, h => by
    by_cases hm : (n : Int) ∈ l
    · have := nodup_len n (l.erase n) (nd.erase _) fun x hx => by
        have h1 := h x (List.mem_of_mem_erase hx)
        have h2 : x ≠ n := fun z => by
          subst z
          exact (nd.not_mem_erase) hx
        omega
      have e := List.length_erase_of_mem hm
      have p := List.length_pos_of_mem hm
      omega
    · have := nodup_len n l nd fun x hx => by
        have h1 := h x hx
        have h2 : x ≠ n := fun z => hm (z ▸ hx)
        omega
      omega
/-- the dict at D holds exactly these numbers below n -/
def Gath (H : Hp) (D : Addr) (n : Nat) (S : Int → Prop) : Prop := ∃ ks : List Int, H D = some (.dK (rowsD ks)) ∧ ks.Nodup ∧ (∀ x ∈ ks, 0 ≤ x ∧ x < n) ∧ ∀ x, x ∈ ks ↔ S x
theorem Gath.iff {H : Hp} {D : Addr} {n : Nat} {S S' : Int → Prop} (h : Gath H D n S) (e : ∀ x, S x ↔ S' x) : Gath H D n S' := by
  obtain ⟨ks, h1, h2, h3, h4⟩ := h
  exact ⟨ks, h1, h2, h3, fun x => (h4 x).trans (e x)⟩
theorem Gath.put {H : Hp} {D : Addr} {n : Nat} {S : Int → Prop} {ks : List Int} {k : Int} (h2 : ks.Nodup) (h3 : ∀ x ∈ ks, 0 ≤ x ∧ x < n) (h4 : ∀ x, x ∈ ks ↔ S x) (k0 : 0 ≤ k) (k1 : k < n) :
    Gath (upd H D (.dK (putK (rowsD ks) (Sum.inl k : Key) (V.bl true)))) D n fun x => S x ∨ x = k := by
  rw [put_rows]
  by_cases h : k ∈ ks
  · rw [if_pos h]
    exact ⟨ks, upd_same, h2, h3, fun x => ⟨fun z => .inl ((h4 x).mp z), fun z => z.elim (h4 x).mpr fun z => z ▸ h⟩⟩
  · rw [if_neg h]
    refine ⟨_, upd_same, ?_, ?_, fun x => ?_⟩
    · refine List.nodup_append.mpr ⟨h2, by simp, fun a ha b hb => ?_⟩
      rw [List.mem_singleton.mp hb]
      exact fun z => h (z ▸ ha)
    · intro x hx
      rcases List.mem_append.mp hx with z | z
      · exact h3 x z
      · exact List.mem_singleton.mp z ▸ ⟨k0, k1⟩
    · rw [List.mem_append, List.mem_singleton, h4]
theorem small1000' {n : Nat} (h : n ≤ 2000) : n < sizeLine := by
  rw [sizeLine_eq]
  omega
theorem catA_of {K : PySem.W.Frag} {a b : Addr} {xs ys : List V} {H : Hp} {Q : VK} (ha : H a = some (.tup xs)) (hb : H b = some (.tup ys)) (hl : xs.length + ys.length ≤ sizeLine)
    (h : ∀ e H3, Same H H3 → H3 e = some (.tup (xs ++ ys)) → (e = a ∨ e = b ∨ H e = none) → Q (.ref e) H3) : rCatA K (.ref a) (.ref b) H Q := by
  refine ⟨a, b, xs, ys, rfl, rfl, SqT.of ha, SqT.of hb, hl, fun z => ?_, fun _ z => ?_, fun _ _ p hp => ?_⟩
  · exact h b H (Same.refl H) (by rw [z]; exact hb) (.inr (.inl rfl))
  · exact h a H (Same.refl H) (by rw [z, List.append_nil]; exact ha) (.inl rfl)
  · exact h p _ (same_new (Same.refl H) hp) upd_same (.inr (.inr hp))
theorem prog_iff {g r n x : Int} (hg : 0 < g) (r0 : 0 ≤ r) (r1 : r < g) (gn : g ≤ n) : (∃ k : Nat, k < ((n - r - 1) / g + 1).toNat ∧ x = r + (k : Int) * g) ↔ (0 ≤ x ∧ x < n) ∧ x % g = r := by
  have q0 : 0 ≤ (n - r - 1) / g := Int.ediv_nonneg (by omega) (by omega)
  constructor
  · rintro ⟨k, hk, rfl⟩
    have h1 : (k : Int) ≤ (n - r - 1) / g := by omega
    have h2 : (k : Int) * g ≤ n - r - 1 := (Int.le_ediv_iff_mul_le hg).mp h1
    have h3 : 0 ≤ (k : Int) * g := Int.mul_nonneg (by omega) (by omega)
    refine ⟨⟨by omega, by omega⟩, ?_⟩
    rw [Int.add_mul_emod_self_right, Int.emod_eq_of_lt r0 r1]
  · rintro ⟨⟨x0, x1⟩, e⟩
    have d := Int.emod_add_mul_ediv x g
    have d0 : 0 ≤ x / g := Int.ediv_nonneg x0 (by omega)
    have h1 : x / g ≤ (n - r - 1) / g := (Int.le_ediv_iff_mul_le hg).mpr (by rw [Int.mul_comm]; omega)
    refine ⟨(x / g).toNat, by omega, ?_⟩
    rw [Int.toNat_of_nonneg d0, Int.mul_comm]
    omega
section
variable {P : Program} {w : World} {K : PySem.W.Frag} {mg : Str → Option Value} {base : Heap}
theorem LotEnd.cong {T T' : Tl} {H : Hp} {Q : VK} {E : XK} (e1 : T.has = T'.has) (e2 : T.U = T'.U) (e3 : T.D = T'.D) (h : LotEnd K T H Q E) : LotEnd K T' H Q E := by
  unfold LotEnd insOf resOf at *
  rw [← e1, ← e2, ← e3]
  exact h
def spRest (K : PySem.W.Frag) : Sp := fun vs H Q E => ∃ (p : Addr) (n : Nat) (lo hi : Int) (m : Nat) (xs us ds : List Int) (T : Tl), vs = [.ref p, .int n] ∧ LotAt (He.ga K "Lot") H p lo hi xs m us ds ∧ LotD lo hi xs m us ds ∧ (0 < n ∧ n ≤ 60) ∧
  (∀ x, T.has x = true ↔ (0 ≤ x ∧ x < n) ∧ RestS xs m us ds n x) ∧ (∀ x, T.U x = false) ∧ (∀ x, T.D x = false) ∧ T.us.length = 1 ∧ T.ds.length = 1 ∧ LotEnd K T H Q E
abbrev s_rest : Stmt := top 30
abbrev N_rest : List Str := ["lot", "many", "step", "rests", "number", "rest", "place"]
theorem sc_rest : FnScope N_rest ["lot", "many"] (defScope s_rest) := ⟨rfl, rfl, rfl, by decide +kernel, rfl, by decide +kernel, by decide +kernel⟩
theorem kp_rest (F : At K mg "rest_lot" s_rest) (T_ : LotTxt K mg (He.ga K "Lot")) (N : Nb mg) (nS : mg "sorted" = none) (gG : mg "gcd" = some (.builtin "math.gcd")) (Gj : Keeps (CX P w) P w K mg base "just_lot" 4 ["numbers"] (spJust K)) :
    Keeps (CX P w) P w K mg base "rest_lot" 5 ["lot", "many"] (spRest K) := by
  refine keeps_ofX F sc_rest (fun _ _ _ _ _ _ us hl => match us, hl with | [_, _], _ => rfl) (fun vs H Q E h => ?_) (fun f cdv A outer s H vs Q E hr h => ?_)
  · obtain ⟨p, n, lo, hi, m, xs, us, ds, T, rfl, _⟩ := h
    rfl
  · obtain ⟨p, n, lo, hi, m, xs, us, ds, T, rfl, ⟨dx, a1, a2, a3, hp, h1, h2, h3⟩, L, ⟨n0, n60⟩, hT, hU, hD, tu, td, k⟩ := h
    have hu := hu_of hr
    have mp := L.pos
    refine ⟨_, (pss_cons (ps_set (i := 2) sc_rest.nd rfl (by walk_at "lv") (pe_callBfun cr_gcd (by rfl) gG (pa_cons (pe_fld (pv 0) rfl) (pa_cons (pv 1) pa_nil))))
        (pss_cons (ps_setDc (i := 3) (own := [("number", 4)]) (g := gName 4) (tt := tYes) (tk := tOp (rI (fun _ j => 0 < j) fun i j => .int (i % j)) (tVar 4) (tVar 1)) (tv := tC (.bl true)) rfl sc_rest.nd rfl rfl (sw_dict rfl rfl rfl (by decide +kernel)) (pi_tup (pe_fld (pv 0) rfl)) (blkOk_by (N := N_rest) (sc := defScope s_rest) (by decide +kernel)) (fun _ _ _ _ _ => (pg_name (i := 4) sc_rest.nd rfl (by walk_at "lv"))) (fun _ _ _ _ _ => pts_nil) (fun _ _ _ _ _ => (pe_op op_mod (pv 4) (pv 1))) (fun _ _ _ _ _ => pe_bl))
        (pss_cons (ps_for (passes_of rfl) rfl (pi_tup (pe_op op_catA (pe_fld (pv 0) rfl) (pe_fld (pv 0) rfl))) (pg_name (i := 5) sc_rest.nd rfl (by walk_at "lv")) (pss_one (ps_for (passes_of rfl) rfl (pi_range3 (by rfl) N.range (pa_cons (pe_op op_mod (pv 5) (pv 2)) (pa_cons (pv 1) (pa_cons (pv 2) pa_nil)))) (pg_name (i := 6) sc_rest.nd rfl (by walk_at "lv")) (pss_one (ps_dput hu (pv 3) (pv 6) pe_bl rfl)))))
        (pss_one (ps_ret (pe_k Gj hr (by rfl) (passes_call (takes_of rfl rfl rfl rfl) (fun _ _ _ _ h => h)) (pa_cons (pe_callB (call_sortedDI (by rfl)) (by rfl) nS (by decide +kernel) (pa_cons (pv 3) pa_nil)) pa_nil))))))), ?_⟩
    have gp : 0 < Nat.gcd m n := Nat.gcd_pos_of_pos_left _ mp
    have gn : Nat.gcd m n ≤ n := Nat.gcd_le_right _ n0
    have eg : ((Nat.gcd ((m : Int)).natAbs ((n : Int)).natAbs : Nat) : Int) = ((Nat.gcd m n : Nat) : Int) := by rw [Int.natAbs_natCast, Int.natAbs_natCast]
    refine ⟨_, rfl, p, _, dx, _, _, rfl, hp, T_.cl, T_.n4, lf_modulus, _, rfl, _, _, rfl, ?_⟩
    rw [eg]
    refine ⟨_, rfl, p, _, dx, _, _, rfl, hp, T_.cl, T_.n3, lf_inside, a1, rfl, ⟨_, SqT.of h1⟩, fun D hD' => ?_⟩
    refine dc_tup (xs := xs.map V.int) (fun i H2 => Same H H2 ∧ Gath H2 D n fun x => ∃ y ∈ xs.take i, y % (n : Int) = x) ⟨same_new (Same.refl H) hD', [], upd_same, List.nodup_nil, (fun x z => nomatch z), fun x => ⟨(fun z => nomatch z), fun ⟨y, hy, _⟩ => by simp at hy⟩⟩ (fun i H2 _ h => SqT.of (h.1 _ _ h1)) ?_ ?_
    · rintro i x H2 hx ⟨s2, ks, k1, k2, k3, k4⟩
      obtain ⟨y, hy, rfl⟩ := int_at hx
      have y0 := Int.emod_nonneg y (by omega : (n : Int) ≠ 0)
      have y1 := Int.emod_lt_of_pos y (by omega : (0 : Int) < (n : Int))
      have kl := nodup_len n ks k2 k3
      refine ⟨rfl, _, rfl, _, rfl, _, _, rfl, rfl, (by omega : (0 : Int) < (n : Int)), rowsD ks, Sum.inl (y % (n : Int)), rfl, k1, small1000 (by rw [rows_len]; omega), ?_, ?_⟩
      · intro b o e
        rw [upd_ne (ne_of_none e hD')]
        exact s2 b o e
      · refine (Gath.put k2 k3 k4 y0 y1).iff fun x => ?_
        rw [List.take_succ, hy]
        constructor
        · rintro (⟨z, hz, e⟩ | e)
          · exact ⟨z, List.mem_append_left _ hz, e⟩
          · exact ⟨y, List.mem_append_right _ (List.mem_singleton.mpr rfl), e.symm⟩
        · rintro ⟨z, hz, e⟩
          rcases List.mem_append.mp hz with q | q
          · exact .inl ⟨z, q, e⟩
          · rw [List.mem_singleton.mp q] at e
            exact .inr e.symm
    rintro H4 ⟨s4, ga4⟩
    rw [show (xs.map V.int).length = xs.length from List.length_map _, List.take_length] at ga4
    have eD4 : ∃ kv, H4 D = some (.dK kv) := ga4.elim fun ks z => ⟨_, z.1⟩
    obtain ⟨kv4, eD4⟩ := eD4
    refine ⟨_, rfl, p, _, dx, _, _, rfl, s4 _ _ hp, T_.cl, T_.n5, lf_ups, _, rfl, p, _, dx, _, _, rfl, s4 _ _ hp, T_.cl, T_.n6, lf_downs, ?_⟩
    have lu := L.lu
    have ld := L.ld
    refine catA_of (s4 _ _ h2) (s4 _ _ h3) (Nat.le_of_lt (small1000' (by rw [List.length_map, List.length_map]; omega))) fun e H5 s5 he wh => ?_
    have eD : e ≠ D := by
      rcases wh with z | z | z
      · exact z ▸ ne_of (s4 _ _ h2) eD4 (by intro q; cases q)
      · exact z ▸ ne_of (s4 _ _ h3) eD4 (by intro q; cases q)
      · exact (ne_of_none eD4 z).symm
    rw [← List.map_append] at he
    have ga5 : Gath H5 D n fun x => ∃ y ∈ xs, y % (n : Int) = x := by
      obtain ⟨ks, k1, k2⟩ := ga4
      exact ⟨ks, s5 _ _ k1, k2⟩
    have s05 := s4.trans s5
    refine ⟨e, rfl, ⟨_, SqT.of he⟩, for_it (walk_tup (K := K) (a := e) (xs := (us ++ ds).map V.int)) (fun i σ H2 => ∃ y5 y6 : Option V, σ = [some (.ref p), some (.int n), some (.int ((Nat.gcd m n : Nat) : Int)), some (.ref D), none, y5, y6] ∧ Same H H2 ∧ H2 e = some (.tup ((us ++ ds).map V.int)) ∧
      Gath H2 D n fun x => (∃ y ∈ xs, y % (n : Int) = x) ∨ ∃ u ∈ (us ++ ds).take i, (0 ≤ x ∧ x < (n : Int)) ∧ x % ((Nat.gcd m n : Nat) : Int) = u % ((Nat.gcd m n : Nat) : Int)) ?_ (fun i σ H2 _ ⟨_, _, _, _, e2, _⟩ => SqT.of e2) ?_ ?_⟩
    · exact ⟨_, _, rfl, s05, he, ga5.iff fun x => ⟨.inl, fun z => z.elim id fun ⟨u, hu', _⟩ => by simp at hu'⟩⟩
    · rintro i v σ H2 H3 hi' ⟨y5, y6, rfl, s2, e2, ga⟩ ⟨rfl, e4⟩
      obtain ⟨u, hu', rfl⟩ := int_at e4
      generalize hgi : ((Nat.gcd m n : Nat) : Int) = gi at *
      have g0 : 0 < gi := by omega
      have g1 : gi ≤ n := by omega
      have r0 := Int.emod_nonneg u (by omega : gi ≠ 0)
      have r1 := Int.emod_lt_of_pos u g0
      refine ⟨_, rfl, _, rfl, _, _, rfl, rfl, g0, _, rfl, _, rfl, _, _, _, _, rfl, RgC_pos r0 (by omega) (by omega) g0 (by omega), ?_⟩
      refine for_rangeC (lo := u % gi) (c := gi) (n := (((n : Int) - u % gi - 1) / gi + 1).toNat) (fun j σ H4 => ∃ y6 : Option V, σ = [some (.ref p), some (.int n), some (.int gi), some (.ref D), none, some (.int u), y6] ∧ Same H H4 ∧ H4 e = some (.tup ((us ++ ds).map V.int)) ∧
        Gath H4 D n fun x => ((∃ y ∈ xs, y % (n : Int) = x) ∨ ∃ u ∈ (us ++ ds).take i, (0 ≤ x ∧ x < (n : Int)) ∧ x % gi = u % gi) ∨ ∃ k : Nat, k < j ∧ x = u % gi + (k : Int) * gi) ?_ ?_ ?_
      · exact ⟨_, rfl, s2, e2, ga.iff fun x => ⟨.inl, fun z => z.elim id fun ⟨k, hk, _⟩ => by omega⟩⟩
      · rintro j σ H4 hj ⟨y, rfl, s3, e3, ks, k1, k2, k3, k4⟩
        have inn := ((prog_iff (x := u % gi + (j : Int) * gi) g0 r0 r1 g1).mp ⟨j, hj, rfl⟩).1
        have kl := nodup_len n ks k2 k3
        refine ⟨_, rfl, _, rfl, D, _, rfl, DPut.k (k := Sum.inl (u % gi + (j : Int) * gi)) k1 (small1000 (by rw [rows_len]; omega)), ?_⟩
        refine ⟨_, rfl, ?_, by rw [upd_ne eD]; exact e3, ?_⟩
        · intro b o z
          rw [upd_ne (ne_of_none z hD')]
          exact s3 b o z
        · refine (Gath.put k2 k3 k4 inn.1 inn.2).iff fun x => ?_
          constructor
          · rintro ((z | ⟨k, hk, z⟩) | z)
            · exact .inl z
            · exact .inr ⟨k, by omega, z⟩
            · exact .inr ⟨j, by omega, z⟩
          · rintro (z | ⟨k, hk, z⟩)
            · exact .inl (.inl z)
            · by_cases q : k = j
              · subst q; exact .inr z
              · exact .inl (.inr ⟨k, by omega, z⟩)
      · rintro σ H4 ⟨y, rfl, s3, e3, ga4⟩
        refine ⟨_, _, rfl, s3, e3, ga4.iff fun x => ?_⟩
        rw [prog_iff g0 r0 r1 g1, List.take_succ, hu']
        constructor
        · rintro ((z | ⟨w, hw, z⟩) | z)
          · exact .inl z
          · exact .inr ⟨w, List.mem_append_left _ hw, z⟩
          · exact .inr ⟨u, List.mem_append_right _ (List.mem_singleton.mpr rfl), z⟩
        · rintro (z | ⟨w, hw, z⟩)
          · exact .inl (.inl z)
          · rcases List.mem_append.mp hw with q | q
            · exact .inl (.inr ⟨w, q, z⟩)
            · rw [List.mem_singleton.mp q] at z
              exact .inr z
    · rintro σ H6 ⟨y5, y6, rfl, s6, e6, ks, k1, k2, k3, k4⟩
      rw [List.length_map, List.take_length] at k4
      have kl := nodup_len n ks k2 k3
      refine ⟨_, rfl, D, rowsD ks, ks, rfl, Rd.of k1, ?_, by omega, fun ys q perm _ hq => ?_⟩
      · unfold rowsD
        rw [List.map_map]
        rfl
      have mem : ∀ x, x ∈ ys ↔ T.has x = true := fun x => by
        rw [perm.mem_iff, k4, hT]
        constructor
        · rintro (⟨y, hy, z⟩ | ⟨w, hw, z, z2⟩)
          · have y0 := Int.emod_nonneg y (by omega : (n : Int) ≠ 0)
            have y1 := Int.emod_lt_of_pos y (by omega : (0 : Int) < (n : Int))
            exact ⟨⟨by omega, by omega⟩, .inl ⟨y, hy, z⟩⟩
          · exact ⟨z, .inr ⟨w, hw, z2⟩⟩
        · rintro ⟨z, ⟨y, hy, z2⟩ | ⟨w, hw, z2⟩⟩
          · exact .inl ⟨y, hy, z2⟩
          · exact .inr ⟨w, hw, z, z2⟩
      have bd : ∀ x ∈ ys, 0 ≤ x ∧ x < n := fun x hx => k3 x (perm.mem_iff.mp hx)
      have s7 : Same H (upd H6 q (.lst (ys.map V.int))) := same_new s6 hq
      have fU : T.U = fun _ => false := funext hU
      have fD : T.D = fun _ => false := funext hD
      have mono : LotEnd K T (upd H6 q (.lst (ys.map V.int))) Q E := k.same s7
      refine ⟨q, ys, rfl, upd_same, fun x hx => by have := bd x hx; omega, fun x hx y hy => by have := bd x hx; have := bd y hy; omega, fun z p' H8 s8 l => ?_, fun l h hl ll hh lh => ?_⟩
      · have no : ∀ x, T.has x = T.U x := fun x => by
          rw [hU]
          cases e : T.has x with
          | false => rfl
          | true => rw [← mem, z] at e; cases e
        have ok : T.Ok := ⟨by rw [tu, td], by rw [tu]; decide⟩
        have lst : Least T.U T.D 1 := by
          rw [fU, fD]
          exact ⟨by decide, fun _ => rfl, fun _ => rfl, fun e he _ _ => he⟩
        refine mono.1 p' 0 (-1) 1 H8 (form_none ok lst no) (by decide) (by decide) s8 ?_
        rw [show resOf T.U 1 = [] by rw [fU]; rfl, show resOf T.D 1 = [] by rw [fD]; rfl]
        exact l
      · refine LotEnd.cong ?_ ?_ ?_ mono
        · funext x
          rw [tlOf_has (by decide)]
          unfold lotHas
          have hlh := ll h hh
          have b : ∀ x, T.has x = decide (x ∈ ys) := fun x => by
            cases e : T.has x with
            | true => exact (decide_eq_true ((mem x).mpr e)).symm
            | false => exact (decide_eq_false fun z => by rw [mem, e] at z; cases z).symm
          rw [b]
          by_cases c1 : l + ((h + 1 - l).toNat : Int) - 1 < x
          · rw [if_pos c1, decide_eq_false fun z => by have := lh x z; omega]
            rfl
          · rw [if_neg c1]
            by_cases c2 : x < l
            · rw [if_pos c2, decide_eq_false fun z => by have := ll x z; omega]
              rfl
            · rw [if_neg c2]
        · funext x
          rw [tlOf_U (by decide), hU]
          rfl
        · funext x
          rw [tlOf_D (by decide), hD]
          rfl
end
end My
set_option Elab.async false
set_option linter.all false
set_option maxRecDepth 100000
set_option maxHeartbeats 8000000
namespace My
open PySem PySem.Spec PyProof.Rows L2
local macro_rules | `(tactic| walk_at "lv") => `(tactic| first | exact Or.inl rfl | exact Or.inr rfl)
section
variable {P : Program} {w : World} {K : PySem.W.Frag} {mg : Str → Option Value} {base : Heap}
/-! ### _law_asked -/
def AskEnd (K : PySem.W.Frag) (T : Tl) (H : Hp) (Q : VK) : Prop :=
  (∀ p lo hi d H', IsForm T.has T.U T.D lo hi d → -20000 ≤ lo → hi ≤ 20000 → Same H H' → LotAt (He.ga K "Lot") H' p lo hi (insOf T lo hi) d (resOf T.U d) (resOf T.D d) → Q (.ref p) H') ∧
  (∀ lo hi d H', IsForm T.has T.U T.D lo hi d → (lo < -20000 ∨ 20000 < hi) → Same H H' → Q (.str "long") H')
def spAsked (K : PySem.W.Frag) : Sp := fun vs H Q _ => ∃ (p : Addr) (lo hi : Int) (m : Nat) (xs us ds : List Int), LotAt (He.ga K "Lot") H p lo hi xs m us ds ∧ LotD lo hi xs m us ds ∧
  ((∃ b : Int, vs = [.int 0, .ref p, .int b] ∧ (-(9 * 10 ^ 30) ≤ b ∧ b ≤ 9 * 10 ^ 30) ∧ AskEnd K (tlOf (lo + b) (hi + 1 - lo).toNat (xs.map (· + b)) m (us.map fun r => (r + b) % (m : Int)) (ds.map fun r => (r + b) % (m : Int))) H Q) ∨
   (vs = [.int 1, .ref p, .int 0] ∧ AskEnd K (tlOf (-hi) (hi + 1 - lo).toNat (xs.map (-·)) m (ds.map fun r => (-r) % (m : Int)) (us.map fun r => (-r) % (m : Int))) H Q) ∨
   ∃ (n : Nat) (T : Tl), vs = [.int 2, .ref p, .int n] ∧ (0 < n ∧ n ≤ 60) ∧ (∀ x, T.has x = true ↔ (0 ≤ x ∧ x < n) ∧ RestS xs m us ds n x) ∧ (∀ x, T.U x = false) ∧ (∀ x, T.D x = false) ∧ T.us.length = 1 ∧ T.ds.length = 1 ∧ LotEnd K T H Q E0)
abbrev s_ask : Stmt := top 44
abbrev N_ask : List Str := ["_law_way", "_law_lot", "_law_number", "e"]
theorem sc_ask : FnScope N_ask ["_law_way", "_law_lot", "_law_number"] (defScope s_ask) := ⟨rfl, rfl, rfl, by decide +kernel, rfl, by decide +kernel, by decide +kernel⟩
def tAskS (K : PySem.W.Frag) (a : Addr) (cls : Value) (d : Option Addr) : TS := tSeq (tIfS (tTest (tOp rNe (tXf a cls d (He.ga K "TooLong") "most" (tVar 3)) (tC (.int 20000)))) (tRet (tC (.str "other"))) tNext) (tRet (tC (.str "long")))
theorem kp_ask (F : At K mg "_law_asked" s_ask) (T0 : ExF K mg "TooLong" "BookError" ["most"]) (xf : XfC K (He.ga K "TooLong")) (xm : PySem.W.exmOne K (.ref (He.ga K "TooLong")) (.ref (He.ga K "TooLong")) = some true)
    (Gm : Keeps (CX P w) P w K mg base "moved_lot" 4 ["lot", "by"] (spMoved K)) (Gt : Keeps (CX P w) P w K mg base "turned_lot" 4 ["lot"] (spTn K)) (Gr : Keeps (CX P w) P w K mg base "rest_lot" 5 ["lot", "many"] (spRest K)) :
    Keeps CX0 P w K mg base "_law_asked" 6 ["_law_way", "_law_lot", "_law_number"] (spAsked K) := by
  refine keeps_of F sc_ask (fun _ _ _ _ _ _ us hl => match us, hl with | [_, _, _], _ => rfl) (fun vs H Q E h => ?_) (fun f cdv A outer s H vs Q E hr h => ?_)
  · obtain ⟨p, lo, hi, m, xs, us, ds, _, _, ⟨b, rfl, _⟩ | ⟨rfl, _⟩ | ⟨n, T, rfl, _⟩⟩ := h <;> rfl
  · obtain ⟨p, lo, hi, m, xs, us, ds, la, L, h⟩ := h
    obtain ⟨fm, Fm, bm, kpm, mm⟩ := Gm
    obtain ⟨ft, Ft, bt, kpt, mt⟩ := Gt
    have h4 := hr.mono (show 4 ≤ 5 by decide)
    refine ⟨_, (pss_cons (ps_try_as (i := 3) (tb := fun W => tSeq (tIfS (tTest (tOp rEq (tVar 0) (tC (.int 0)))) (tRet (tCallS (spMoved K) (WE W) (tCons (tVar 1) (tCons (tVar 2) tNil)))) tNext) (tIfS (tTest (tOp rEq (tVar 0) (tC (.int 1)))) (tRet (tCallS (spTn K) (WE W) (tCons (tVar 1) tNil))) tNext)) (ts := fun a cls d => tAskS K a cls d) (Wout := fun _ _ _ _ => False) rfl rfl sc_ask.nd rfl rfl ⟨(by rfl), by decide, .inl T0.g⟩ takes0
      (fun W pn xe tk _ => pss_cons (ps_if (pt_cmpR op_eq (pv 0) pe_int (nomark _)) (pss_one (ps_ret (pe_callS Fm h4 (by rfl) mm kpm bm (fun σ => passAt tk σ) (pa_cons (pv 1) (pa_cons (pv 2) pa_nil))))) pss_nil)
        (pss_one (ps_if (pt_cmpR op_eq (pv 0) pe_int (nomark _)) (pss_one (ps_ret (pe_callS Ft h4 (by rfl) mt kpt bt (fun σ => passAt tk σ) (pa_cons (pv 1) pa_nil)))) pss_nil)))
      (fun a oe cls d pn hz hf => pss_cons (ps_if (pt_cmpR op_ne (pe_xf xf (T0.no _ (by decide)) hz hf (pv 3)) pe_int (nomark _)) (pss_one (ps_ret pe_str)) pss_nil) (pss_one (ps_ret pe_str))))
        (pss_one (ps_ret (pe_k Gr hr (by rfl) (passE (P := P) (w := w)) (pa_cons (pv 1) (pa_cons (pv 2) pa_nil)))))), ?_⟩
    have i00 : decide (V.int 0 = V.int 0) = true := by simp
    have i10 : decide (V.int 1 = V.int 0) = false := by simp
    have i11 : decide (V.int 1 = V.int 1) = true := by simp
    have i20 : decide (V.int 2 = V.int 0) = false := by simp
    have i21 : decide (V.int 2 = V.int 1) = false := by simp
    rcases h with ⟨b, rfl, bb, k⟩ | ⟨rfl, k⟩ | ⟨n, T, rfl, nn, hT, hU, hD, tu, td, k⟩
    · refine ⟨_, rfl, rfl, _, rfl, ?_⟩
      rw [i00]
      refine iteT ⟨_, rfl, _, rfl, ?_⟩
      refine ⟨p, b, lo, hi, m, xs, us, ds, rfl, la, L, bb, k.1, fun lo hi d dd H' fm out s2 e => ?_⟩
      refine ⟨true, xm, fun _ x hx => ?_, fun z => nomatch z⟩
      refine ⟨_, rfl, rfl, rfl, dd, _, .int 20000, rfl, e, rfl, rfl, _, rfl, ?_⟩
      rw [show (!decide (V.int 20000 = V.int 20000)) = false by simp]
      exact iteF (k.2 lo hi d H' fm out s2)
    · refine ⟨_, rfl, rfl, _, rfl, ?_⟩
      rw [i10]
      refine iteF ⟨_, rfl, rfl, _, rfl, ?_⟩
      rw [i11]
      refine iteT ⟨_, rfl, ?_⟩
      refine ⟨p, lo, hi, m, xs, us, ds, rfl, la, L, k.1, fun lo hi d dd H' fm out s2 e => ?_⟩
      refine ⟨true, xm, fun _ x hx => ?_, fun z => nomatch z⟩
      refine ⟨_, rfl, rfl, rfl, dd, _, .int 20000, rfl, e, rfl, rfl, _, rfl, ?_⟩
      rw [show (!decide (V.int 20000 = V.int 20000)) = false by simp]
      exact iteF (k.2 lo hi d H' fm out s2)
    · refine ⟨_, rfl, rfl, _, rfl, ?_⟩
      rw [i20]
      refine iteF ⟨_, rfl, rfl, _, rfl, ?_⟩
      rw [i21]
      refine iteF ⟨_, rfl, _, rfl, p, n, lo, hi, m, xs, us, ds, T, rfl, la, L, nn, hT, hU, hD, tu, td, k⟩
end
end My
set_option Elab.async false
set_option linter.all false
set_option maxRecDepth 100000
set_option maxHeartbeats 8000000
namespace My
open PySem PySem.Spec PyProof.Rows L2
local macro_rules | `(tactic| walk_at "lv") => `(tactic| first | exact Or.inl rfl | exact Or.inr rfl)
/-! ### what the law leans on, and what the top leaves -/
def spLaw (K : PySem.W.Frag) : Sp := fun vs H Q _ => ∃ (a : Addr) (ns : List Int), vs = [.ref a] ∧ SqL K H a (ns.map V.int) ∧ ns.length ≤ 63 ∧ ∀ H', Q (.bl true) H'
abbrev s_law : Stmt := top 46
abbrev N_law : List Str := ["_law_script", "_law_hand_here", "_law_turn", "_law_telling", "_law_low", "_law_high", "_law_core", "_law_modulus", "_law_ups", "_law_downs", "_law_lot", "_law_seen_here", "_law_by", "_law_moved", "_law_turned", "_law_many", "_law_rests", "_law_number", "_law_numbers", "_law_kept", "_law_row", "_law_bits", "_law_k", "_law_n"]
theorem sc_law : FnScope N_law ["_law_script"] (defScope s_law) := ⟨rfl, rfl, rfl, by decide +kernel, rfl, by decide +kernel, by decide +kernel⟩
structure LawSrc (P : Program) (w : World) (K : PySem.W.Frag) (mg : Str → Option Value) (base : Heap) : Prop where
  n : Nb mg
  lt : LotTxt K mg (He.ga K "Lot")
  hand : Keeps CX0 P w K mg base "_law_hand" 1 ["_law_script"] (spHand K)
  draw : Keeps CX0 P w K mg base "_law_draw" 2 ["_law_hand_here", "_law_many"] spDraw
  td : Keeps CX0 P w K mg base "_law_telling_drawn" 3 ["_law_hand_here", "_law_far"] spTD
  form : Keeps CX0 P w K mg base "_law_form" 2 ["_law_telling"] spForm
  lo : Keeps CX0 P w K mg base "_law_lot_of" 5 ["_law_telling"] (spLo K)
  seen : Keeps CX0 P w K mg base "_law_seen" 1 ["_law_lot"] (spSeen (He.ga K "Lot"))
  is : Keeps CX0 P w K mg base "_law_is" 4 ["_law_told", "_law_telling"] (spIs K)
  ask : Keeps CX0 P w K mg base "_law_asked" 6 ["_law_way", "_law_lot", "_law_number"] (spAsked K)
  has : Keeps CX0 P w K mg base "_law_has" 1 ["_law_telling", "_law_number"] spHas
  just : Keeps (CX P w) P w K mg base "just_lot" 4 ["numbers"] (spJust K)
  range : Keeps (CX P w) P w K mg base "range_lot" 4 ["low", "high"] (spRange K)
  emp : Keeps CX0 P w K mg base "empty_lot" 3 [] (spLit K [] [])
  whl : Keeps CX0 P w K mg base "whole_lot" 3 [] (spLit K [0] [0])
def looseN : List Str := (["gcd", "_wall", "is_whole", "is_whole_from", "is_sequence", "BookError", "BadLot", "TooLong", "FARTHEST", "MOST_MODULUS", "Lot", "make_lot", "_check_core", "_are_unlike_from", "_lot_of", "_flags"] : List Str) ++ (["_places_of", "_least_modulus", "_repeats", "_greatest_wrong", "_least_wrong", "empty_lot", "whole_lot", "just_lot", "range_lot", "moved_lot", "turned_lot", "rest_lot"] : List Str) ++ (["_law_mix", "_law_hand", "_law_draw", "_law_whole", "_law_row_of", "_law_telling_drawn", "_law_has", "_law_parts", "_law_form", "_law_seen", "_law_is_form", "_law_lot_of", "_law_asked", "_law_is"] : List Str)
def dG (x : Str) (st : Stmt) : He5.DefA := ⟨fun K => He.ga K x, x, x, defArgs st, defBody st, defScope st, [], []⟩
def dM (c m q : Str) (st : Stmt) : He5.DefA := ⟨fun K => He.ma K (He.ga K c) m, m, q, defArgs st, defBody st, defScope st, [], []⟩
def gfns : List He5.DefA := ([dG "is_whole" s_whole, dG "is_whole_from" s_wholeF, dG "is_sequence" s_seq, dG "make_lot" s_make, dG "_check_core" s_core, dG "_are_unlike_from" s_unl, dG "_lot_of" s_lotof, dG "_flags" s_flags, dG "_places_of" s_places, dG "_least_modulus" s_lm] : List He5.DefA) ++
  ([dG "_repeats" s_rep, dG "_greatest_wrong" s_gw, dG "_least_wrong" s_lw, dG "_law_mix" s_mix, dG "_law_hand" s_hand, dG "_law_draw" s_draw, dG "empty_lot" s_emp, dG "_law_whole" s_lwh, dG "_law_row_of" s_row, dG "_law_telling_drawn" s_td] : List He5.DefA) ++
  ([dG "_law_has" s_has, dG "_law_parts" s_parts, dG "_law_form" s_form, dG "_law_seen" s_seen, dG "_law_is_form" s_isf, dG "whole_lot" s_whl, dG "just_lot" s_just, dG "range_lot" s_range, dG "moved_lot" s_moved, dG "turned_lot" s_tnd, dG "rest_lot" s_rest, dG "_law_lot_of" s_lo, dG "_law_asked" s_ask, dG "_law_is" s_is, dG "law" s_law] : List He5.DefA)
def mfns : List He5.DefA := [dM "Lot" "__init__" "Lot.__init__" s_lotI, dM "TooLong" "__init__" "TooLong.__init__" (inClass (top 9) 0)]
def fns : List He5.DefA := gfns ++ mfns
def gnames : List Str := gfns.map (·.name)
abbrev AlM : Type := Bool × He.AlD
def obsM (b : PySem.W.Frag → Bool) (K : PySem.W.Frag) : AlM := (b K, He5.obsA [] fns K)
def hookM (n : Nat) (b : PySem.W.Frag → Bool) : PySem.W.Hook where
  α := AlM
  obs := fun s => obsM b (He.frG s.heap.get? (He.asD s.heap.get? n))
  val := fun _ => (true, He5.valA fns)
  says := fun _ h => ∃ K : PySem.W.Frag, K.In h ∧ obsM b K = (true, He5.valA fns)
  of := fun _ _ e => ⟨_, He.frG_in, e⟩
  keeps := fun _ _ _ ⟨F, inF, says⟩ k => ⟨F, PySem.W.Frag.In.keeps inF k, says⟩
theorem obsM_eq {n : Nat} {b : PySem.W.Frag → Bool} {g : Addr → Option Obj} {s : Shared} (h : ∀ a, g a = s.heap.get? a) : obsM b (He.frG g (He.asD g n)) = (hookM n b).obs s := by
  have same : g = s.heap.get? := funext h
  rw [same] <;> rfl
def blts : List Str := ["int", "bool", "str", "list", "tuple", "isinstance", "enumerate", "abs", "len", "range", "min", "all", "any", "ValueError", "sorted", "max"]
def lotB (K : PySem.W.Frag) : Bool := (He.Fa.cls "Lot").ok K && ((["low", "high", "inside", "modulus", "ups", "downs"] : List Str).all (fun f => (He.Fa.noat "Lot" f).ok K) && ((He.Fa.mkr "Lot").ok K &&
  (decide (PySem.W.findIn K (.ref (He.ga K "Lot")) "__class__" = some (some (.builtin "object.__class__"))) && (decide (PySem.W.mroIn K (He.ga K "Lot") (.type "object") = some true) && (decide (PySem.W.kitOne K (.ref (He.ga K "Lot")) (.type "str") = some false) && decide (PySem.W.kitOne K (.ref (He.ga K "Lot")) (.ref (He.ga K "Lot")) = some true))))))
def tlB (K : PySem.W.Frag) : Bool := exB K "BookError" ("TooLong", ["most"]) && (xfB K (He.ga K "TooLong") && decide (PySem.W.exmOne K (.ref (He.ga K "TooLong")) (.ref (He.ga K "TooLong")) = some true))
def conB (K : PySem.W.Frag) : Bool := (He.Fa.glo "Lot").ok K && ((He.Fa.int "FARTHEST" 20000).ok K && ((He.Fa.int "MOST_MODULUS" 10080).ok K && He.eqO (PySem.W.nsIn K mainGlobals "gcd") (some (some (.builtin "math.gcd")))))
def clB (K : PySem.W.Frag) : Bool := decide (PySem.W.specialIn K (.builtin "object.__class__") "__get__" = some (some (.builtin "getset_descriptor.__get__"))) && decide (PySem.W.takesIn K (.builtin "object.__class__") = some true)
def facts (K : PySem.W.Frag) : Bool := (blts.all fun x => (He.Fa.free x).ok K) && ((gnames.all fun x => (He.Fa.glo x).ok K) && (lotB K && (tlB K && (conB K && clB K))))
theorem lot_txt {K : PySem.W.Frag} {mg : Str → Option Value} (h : lotB K = true) (c : clB K = true) (g : mg "Lot" = some (.ref (He.ga K "Lot"))) : LotTxt K mg (He.ga K "Lot") := by
  obtain ⟨h1, h⟩ := and_ok h
  obtain ⟨h2, h⟩ := and_ok h
  obtain ⟨h3, h⟩ := and_ok h
  obtain ⟨h6, h⟩ := and_ok h
  obtain ⟨h7, h⟩ := and_ok h
  obtain ⟨h8, h9⟩ := and_ok h
  obtain ⟨c1, c2⟩ := and_ok c
  have no : ∀ f, f ∈ (["low", "high", "inside", "modulus", "ups", "downs"] : List Str) → NoAttr K (He.ga K "Lot") f := fun f hf => He.noat_ok (List.all_eq_true.mp h2 f hf)
  exact ⟨He.cls_ok h1, no _ (by decide), no _ (by decide), no _ (by decide), no _ (by decide), no _ (by decide), no _ (by decide), g, of_decide_eq_true h6, of_decide_eq_true c1, of_decide_eq_true c2, of_decide_eq_true h7, of_decide_eq_true h8, of_decide_eq_true h9⟩
theorem law_src {P : Program} {w : World} {K : PySem.W.Frag} {h : Heap} {mg : Str → Option Value} (X : K.In h) (G : h.Ns mainGlobals mg) (b1 : facts K = true) (c : He5.SaysA [] fns K) (base : Heap) : LawSrc P w K mg base := by
  obtain ⟨f1, b1⟩ := and_ok b1
  obtain ⟨f2, b1⟩ := and_ok b1
  obtain ⟨f3, b1⟩ := and_ok b1
  obtain ⟨f5, b1⟩ := and_ok b1
  obtain ⟨f6, f7⟩ := and_ok b1
  have fr : ∀ x, x ∈ blts → mg x = none := fun x hx => He.free_ok X G (List.all_eq_true.mp f1 x hx)
  have gl : ∀ x, x ∈ gnames → mg x = some (.ref (He.ga K x)) := fun x hx => He.glo_ok X G (List.all_eq_true.mp f2 x hx)
  have at_ : ∀ (i : Nat) (x : Str) (st : Stmt), fns[i]? = some (dG x st) → x ∈ gnames → At K mg x st := fun i x st hi hm => ⟨gl _ hm, c.def_ i (d := dG x st) hi⟩
  have N : Nb mg := ⟨fr _ (by decide), fr _ (by decide), fr _ (by decide), fr _ (by decide), fr _ (by decide), fr _ (by decide), fr _ (by decide), fr _ (by decide), fr _ (by decide), fr _ (by decide), fr _ (by decide), fr _ (by decide), fr _ (by decide), fr _ (by decide)⟩
  obtain ⟨g1, g2⟩ := and_ok f6
  obtain ⟨g2, g3⟩ := and_ok g2
  obtain ⟨g3, g4⟩ := and_ok g3
  have gL := He.glo_ok X G g1
  have mF := He.int_ok X G g2
  have mM := He.int_ok X G g3
  have gG : mg "gcd" = some (.builtin "math.gcd") := PySem.W.mg_of X G (He.eqO_ok g4)
  have T := lot_txt f3 f7 gL
  obtain ⟨e1, e2⟩ := and_ok f5
  obtain ⟨e2, e3⟩ := and_ok e2
  have T0 : ExF K mg "TooLong" "BookError" ["most"] := exB_ok X G e1
  have xf := xfB_ok e2
  have xm := of_decide_eq_true e3
  obtain ⟨_, l⟩ := and_ok f3
  obtain ⟨_, l⟩ := and_ok l
  obtain ⟨l3, _⟩ := and_ok l
  have M := He.mkr_ok l3
  have FI : AtM K (He.ga K "Lot") (He.ma K (He.ga K "Lot") "__init__") "__init__" "Lot.__init__" s_lotI := c.def_ 35 (d := dM "Lot" "__init__" "Lot.__init__" s_lotI) rfl
  have KI : KeepsM P w K mg base (He.ma K (He.ga K "Lot") "__init__") 1 ["self", "low", "high", "inside", "modulus", "ups", "downs"] (spLotI (He.ga K "Lot")) := kp_lotI FI T N
  have KJ : KeepsM P w K mg base (He.ma K (He.ga K "Lot") "__init__") 1 ["self", "low", "high", "inside", "modulus", "ups", "downs"] (spLotJ (He.ga K "Lot")) := kp_lotJ FI T N
  have KT : KeepsI P w K mg base "TooLong" ["most"] := ki_TooLong (c.def_ 36 (d := dM "TooLong" "__init__" "TooLong.__init__" (inClass (top 9) 0)) rfl) T0
  have S : Lots P w K mg base := ⟨T, M, KI, T0, KT⟩
  have G0 : Keeps CX0 P w K mg base "is_whole" 1 ["thing"] spWhole := kp_whole (at_ 0 _ _ rfl (by decide)) N
  have G1 : Keeps CX0 P w K mg base "is_whole_from" 2 ["thing", "low", "high"] spWholeF := kp_wholeF (at_ 1 _ _ rfl (by decide)) G0
  have G2 : Keeps CX0 P w K mg base "is_sequence" 1 ["thing"] spSeq := kp_seq (at_ 2 _ _ rfl (by decide)) N
  have G4 : Keeps CX0 P w K mg base "_check_core" 2 ["low", "high"] spCore := kp_core (at_ 4 _ _ rfl (by decide)) G0 mF
  have G5 : Keeps CX0 P w K mg base "_are_unlike_from" 3 ["numbers", "low", "high"] spUnl := kp_unl (at_ 5 _ _ rfl (by decide)) G1 G2
  have G7 : Keeps CX0 P w K mg base "_flags" 1 ["low", "high", "numbers"] spFlags := kp_flags (at_ 7 _ _ rfl (by decide))
  have G8 : Keeps CX0 P w K mg base "_places_of" 1 ["flags"] spPlaces := kp_places (at_ 8 _ _ rfl (by decide)) N
  have G10 : Keeps CX0 P w K mg base "_repeats" 1 ["flags", "length"] spRep := kp_rep (at_ 10 _ _ rfl (by decide))
  have G9 : Keeps CX0 P w K mg base "_least_modulus" 2 ["ups", "downs"] spLM := kp_lm (at_ 9 _ _ rfl (by decide)) G10 N
  have G11 : Keeps CX0 P w K mg base "_greatest_wrong" 1 ["low", "core", "ups", "downs"] spGW := kp_gw (at_ 11 _ _ rfl (by decide)) N
  have G12 : Keeps CX0 P w K mg base "_least_wrong" 1 ["low", "core", "ups", "downs"] spLW := kp_lw (at_ 12 _ _ rfl (by decide)) N
  have G6 : Keeps (CX P w) P w K mg base "_lot_of" 3 ["low", "high", "inside", "modulus", "ups", "downs"] (spLotOf K) := kp_lotof (at_ 6 _ _ rfl (by decide)) N S mF G7 G9 G11 G12 G8
  have G3 : Keeps (CX P w) P w K mg base "make_lot" 4 ["low", "high", "inside", "modulus", "ups", "downs"] (spMake K) := kp_make (at_ 3 _ _ rfl (by decide)) mM G4 G5 G1 G6
  have G13 : Keeps CX0 P w K mg base "_law_mix" 1 ["_law_number", "_law_turn"] spMix := kp_mix (at_ 13 _ _ rfl (by decide)) N.int
  have G14 : Keeps CX0 P w K mg base "_law_hand" 1 ["_law_script"] (spHand K) := kp_hand (at_ 14 _ _ rfl (by decide)) N.int N.enumerate N.abs
  have G15 : Keeps CX0 P w K mg base "_law_draw" 2 ["_law_hand_here", "_law_many"] spDraw := kp_draw (at_ 15 _ _ rfl (by decide)) G13 N.int N.len
  have G16 : Keeps CX0 P w K mg base "empty_lot" 3 [] (spLit K [] []) := kp_emp (at_ 16 _ _ rfl (by decide)) S KJ
  have G17 : Keeps CX0 P w K mg base "_law_whole" 1 ["_law_thing"] spWhole := kp_lwh (at_ 17 _ _ rfl (by decide)) N
  have G18 : Keeps CX0 P w K mg base "_law_row_of" 2 ["_law_thing", "_law_low", "_law_high"] spRow := kp_row (at_ 18 _ _ rfl (by decide)) G17 N
  have G19 : Keeps CX0 P w K mg base "_law_telling_drawn" 3 ["_law_hand_here", "_law_far"] spTD := kp_td (at_ 19 _ _ rfl (by decide)) G15 N
  have G20 : Keeps CX0 P w K mg base "_law_has" 1 ["_law_telling", "_law_number"] spHas := kp_has (at_ 20 _ _ rfl (by decide)) N
  have G21 : Keeps CX0 P w K mg base "_law_parts" 1 ["_law_telling"] spParts := kp_parts (at_ 21 _ _ rfl (by decide)) N
  have G22 : Keeps CX0 P w K mg base "_law_form" 2 ["_law_telling"] spForm := kp_form (at_ 22 _ _ rfl (by decide)) N G20
  have G23 : Keeps CX0 P w K mg base "_law_seen" 1 ["_law_lot"] (spSeen (He.ga K "Lot")) := kp_seen (at_ 23 _ _ rfl (by decide)) T
  have G24 : Keeps CX0 P w K mg base "_law_is_form" 3 ["_law_lot", "_law_form_here"] (spIsF (He.ga K "Lot")) := kp_isf (at_ 24 _ _ rfl (by decide)) T N G17 G18 G23
  have G25 : Keeps CX0 P w K mg base "whole_lot" 3 [] (spLit K [0] [0]) := kp_whl (at_ 25 _ _ rfl (by decide)) S KJ
  have G26 : Keeps (CX P w) P w K mg base "just_lot" 4 ["numbers"] (spJust K) := kp_just (at_ 26 _ _ rfl (by decide)) N.min (fr _ (by decide)) G16 G6
  have G27 : Keeps (CX P w) P w K mg base "range_lot" 4 ["low", "high"] (spRange K) := kp_range (at_ 27 _ _ rfl (by decide)) N G16 G25 G6
  have G28 : Keeps (CX P w) P w K mg base "moved_lot" 4 ["lot", "by"] (spMoved K) := kp_moved (at_ 28 _ _ rfl (by decide)) T G6
  have G29 : Keeps (CX P w) P w K mg base "turned_lot" 4 ["lot"] (spTn K) := kp_tnd (at_ 29 _ _ rfl (by decide)) T G6
  have G30 : Keeps (CX P w) P w K mg base "rest_lot" 5 ["lot", "many"] (spRest K) := kp_rest (at_ 30 _ _ rfl (by decide)) T N (fr _ (by decide)) gG G26
  have G31 : Keeps CX0 P w K mg base "_law_lot_of" 5 ["_law_telling"] (spLo K) := kp_lo (at_ 31 _ _ rfl (by decide)) G21 G3
  have G32 : Keeps CX0 P w K mg base "_law_asked" 6 ["_law_way", "_law_lot", "_law_number"] (spAsked K) := kp_ask (at_ 32 _ _ rfl (by decide)) T0 xf xm G28 G29 G30
  have G33 : Keeps CX0 P w K mg base "_law_is" 4 ["_law_told", "_law_telling"] (spIs K) := kp_is (at_ 33 _ _ rfl (by decide)) N G22 G24
  exact ⟨N, T, G14, G15, G19, G22, G31, G23, G33, G32, G20, G26, G27, G16, G25⟩
theorem law_at {K : PySem.W.Frag} {h : Heap} {mg : Str → Option Value} (X : K.In h) (G : h.Ns mainGlobals mg) (b1 : facts K = true) : mg "law" = some (.ref (He.ga K "law")) := by
  obtain ⟨_, b1⟩ := and_ok b1
  obtain ⟨f2, _⟩ := and_ok b1
  exact He.glo_ok X G (List.all_eq_true.mp f2 "law" (by decide))
theorem binds_law {K : PySem.W.Frag} {fd : FuncData} (F : FunD K "law" "law" (defArgs s_law) (defBody s_law) (defScope s_law) [] [] (He.ga K "law") fd) (s : Shared) (u : Value) : BindsTo s fd ⟨[u], []⟩ [("_law_script", u)] :=
  FunD.bindsA (ps := ["_law_script"]) F (fun _ _ _ _ _ _ us hl => match us, hl with | [_], _ => rfl) s [u] rfl
end My
set_option Elab.async false
set_option linter.all false
set_option maxRecDepth 100000
set_option maxHeartbeats 8000000
namespace My
open PySem PySem.Spec PyProof.Rows L2
local macro_rules | `(tactic| walk_at "lv") => `(tactic| first | exact Or.inl rfl | exact Or.inr rfl)
/-! ### what a told lot is worth -/
/-- v is the lot of T's form in H, or the word where it lies too far -/
def Right (K : PySem.W.Frag) (T : Tl) (H : Hp) (v : V) : Prop := ∃ (lo hi : Int) (m : Nat), IsForm T.has T.U T.D lo hi m ∧
  ((-20000 ≤ lo ∧ hi ≤ 20000 ∧ ∃ p, v = .ref p ∧ LotAt (He.ga K "Lot") H p lo hi (insOf T lo hi) m (resOf T.U m) (resOf T.D m)) ∨ ((lo < -20000 ∨ 20000 < hi) ∧ v = .str "long"))
def InR (T : Tl) : Prop := ∀ lo hi d, IsForm T.has T.U T.D lo hi d → -20000 ≤ lo ∧ hi ≤ 20000
section
variable {K : PySem.W.Frag} {T T' : Tl} {H H' : Hp} {v : V} {Q : VK}
theorem Right.same (s : Same H H') (h : Right K T H v) : Right K T H' v := by
  obtain ⟨lo, hi, m, fm, ⟨a, b, p, e, l⟩ | h⟩ := h
  · exact ⟨lo, hi, m, fm, .inl ⟨a, b, p, e, l.same s⟩⟩
  · exact ⟨lo, hi, m, fm, .inr h⟩
theorem Right.cong (e1 : ∀ x, T.has x = T'.has x) (e2 : ∀ x, T.U x = T'.U x) (e3 : ∀ x, T.D x = T'.D x) (h : Right K T H v) : Right K T' H v := by
  unfold Right insOf resOf at *
  rw [← funext e1, ← funext e2, ← funext e3]
  exact h
theorem lotEnd_of (r : InR T) (h : ∀ v H', Same H H' → Right K T H' v → Q v H') : LotEnd K T H Q E0 :=
  ⟨fun p lo hi d H' fm a b s l => h _ H' s ⟨lo, hi, d, fm, .inl ⟨a, b, p, rfl, l⟩⟩, fun lo hi d dd H' fm out _ _ => by have := r lo hi d fm; omega⟩
theorem askEnd_of (h : ∀ v H', Same H H' → Right K T H' v → Q v H') : AskEnd K T H Q :=
  ⟨fun p lo hi d H' fm a b s l => h _ H' s ⟨lo, hi, d, fm, .inl ⟨a, b, p, rfl, l⟩⟩, fun lo hi d H' fm out s => h _ H' s ⟨lo, hi, d, fm, .inr ⟨out, rfl⟩⟩⟩
theorem right_none {p : Addr} {ns : List Int} (ok : T.Ok) {b : Bool} (e0 : ∀ x, T.has x = b) (e1 : ∀ x, T.U x = b) (e2 : ∀ x, T.D x = b) (en : ns = if b = true then [0] else []) (l : LotAt (He.ga K "Lot") H p 0 (-1) [] 1 ns ns) : Right K T H (.ref p) := by
  have fU : T.U = fun _ => b := funext e1
  have fD : T.D = fun _ => b := funext e2
  have lst : Least T.U T.D 1 := by
    rw [fU, fD]
    exact ⟨by decide, fun _ => rfl, fun _ => rfl, fun e he _ _ => he⟩
  refine ⟨0, -1, 1, form_none ok lst fun x => (e0 x).trans (e1 x).symm, .inl ⟨by decide, by decide, p, rfl, ?_⟩⟩
  have er : resOf (fun _ => b) 1 = ns := by
    rw [en]
    cases b <;> rfl
  rw [fU, fD, er]
  exact l
theorem inr_fin {A B : Int} (hA : -20000 ≤ A) (hB : B ≤ 20000) (e0 : ∀ x, T.has x = true → A ≤ x ∧ x ≤ B) (e1 : ∀ x, T.U x = false) (e2 : ∀ x, T.D x = false) : InR T := by
  intro lo hi d fm
  rcases fm.ends with ⟨_, _, rfl, rfl⟩ | ⟨h1, _, h3, _, h5⟩
  · exact ⟨by decide, by decide⟩
  · rw [e1] at h1
    have b1 := e0 hi (by simpa using h1)
    rcases h5 with h5 | h5
    · omega
    · rw [e2] at h5
      have b2 := e0 lo (by simpa using h5)
      omega
theorem inr_low {h : Int} (hA : -20000 ≤ h) (hB : h ≤ 20000) (e0 : ∀ x, T.has x = decide (x ≤ h)) (e1 : ∀ x, T.U x = false) (e2 : ∀ x, T.D x = true) : InR T := by
  intro lo hi d fm
  rcases fm.ends with ⟨_, _, rfl, rfl⟩ | ⟨h1, h2, h3, _, h5⟩
  · exact ⟨by decide, by decide⟩
  · rw [e1, e0] at h1
    have b1 : hi ≤ h := by simpa using h1
    rcases h5 with h5 | h5
    · have b2 : h ≤ hi := by
        refine Int.not_lt.mp fun z => ?_
        have := h2 h z
        rw [e0, e1] at this
        simp at this
      omega
    · rw [e2, e0] at h5
      have b3 : h < lo := by simpa using h5
      omega
theorem inr_up {l : Int} (hA : -20000 ≤ l) (hB : l ≤ 20000) (e0 : ∀ x, T.has x = decide (l ≤ x)) (e1 : ∀ x, T.U x = true) (e2 : ∀ x, T.D x = false) : InR T := by
  intro lo hi d fm
  rcases fm.ends with ⟨_, _, rfl, rfl⟩ | ⟨h1, h2, h3, _, h5⟩
  · exact ⟨by decide, by decide⟩
  · rw [e1, e0] at h1
    have b1 : hi < l := by simpa using h1
    rcases h5 with h5 | h5
    · have b2 := h2 (hi + 1) (by omega)
      rw [e0, e1] at b2
      have b3 : l ≤ hi + 1 := by simpa using b2
      omega
    · rw [e2, e0] at h5
      have b3 : l ≤ lo := by simpa using h5
      omega
end
/-- one-place rests -/
theorem one_U {lo : Int} {cs : List Bool} {b d : Bool} (x : Int) : (Tl.mk lo cs [b] [d]).U x = b := by
  show ([b]).getD (x % ((1 : Nat) : Int)).toNat false = b
  rw [show x % ((1 : Nat) : Int) = 0 by omega]
  rfl
theorem one_D {lo : Int} {cs : List Bool} {b d : Bool} (x : Int) : (Tl.mk lo cs [b] [d]).D x = d := by
  show ([d]).getD (x % ((1 : Nat) : Int)).toNat false = d
  rw [show x % ((1 : Nat) : Int) = 0 by omega]
  rfl
theorem one_ok {lo : Int} {cs : List Bool} {b d : Bool} : (Tl.mk lo cs [b] [d]).Ok := ⟨rfl, Nat.succ_pos _⟩
theorem one_near {lo : Int} {cs : List Bool} {b d : Bool} (h1 : cs.length ≤ 100) (h2 : -30000 ≤ lo ∧ lo ≤ 30000) : (Tl.mk lo cs [b] [d]).Near := ⟨one_ok, Nat.le_of_ble_eq_true rfl, by show cs.length ≤ 1000; omega, by show -10 ^ 31 ≤ lo ∧ lo ≤ 10 ^ 31; omega⟩
theorem emp_has {lo : Int} {b d : Bool} (x : Int) : (Tl.mk lo [] [b] [d]).has x = if x < lo then d else b := by
  unfold Tl.has
  rw [one_U, one_D]
  show (if x < lo then d else if lo + ((0 : Nat) : Int) - 1 < x then b else _) = _
  by_cases h : x < lo
  · rw [if_pos h, if_pos h]
  · rw [if_neg h, if_neg h, if_pos (by omega)]
end My
set_option Elab.async false
set_option linter.all false
set_option maxRecDepth 100000
set_option maxHeartbeats 8000000
namespace My
open PySem PySem.Spec PyProof.Rows L2
local macro_rules | `(tactic| walk_at "lv") => `(tactic| first | exact Or.inl rfl | exact Or.inr rfl)
theorem is_of {K : PySem.W.Frag} {v : V} {t c u d : Addr} {T : Tl} {H : Hp} {Q : VK} {E : XK} (ta : TellAt H t T c u d) (nr : T.Near) (m1 : T.us.length ≤ 100) (c1 : T.cs.length ≤ 100) (R : Right K T H v) (k : ∀ H', Same H H' → Q (.bl true) H') : spIs K [v, .ref t] H Q E := by
  obtain ⟨lo, hi, m, fm, h⟩ := R
  exact ⟨v, t, c, u, d, T, lo, hi, m, rfl, ta, nr, m1, c1, fm, h, k⟩
theorem tell_lit {H2 : Hp} {c u d t : Addr} {T : Tl} {xs : List V} (hc : H2 c = some (.lst (T.cs.map V.bl))) (hu : H2 u = none) (hd : (upd H2 u (.lst (T.us.map V.bl))) d = none) (ht : (upd (upd H2 u (.lst (T.us.map V.bl))) d (.lst (T.ds.map V.bl))) t = none)
    (hx : xs = [.int T.lo, .int T.hi, .ref c, .int T.us.length, .ref u, .ref d]) : TellAt (upd (upd (upd H2 u (.lst (T.us.map V.bl))) d (.lst (T.ds.map V.bl))) t (.lst xs)) t T c u d ∧ Same H2 (upd (upd (upd H2 u (.lst (T.us.map V.bl))) d (.lst (T.ds.map V.bl))) t (.lst xs)) := by
  have s3 := same_new (o := .lst xs) (same_new (o := .lst (T.ds.map V.bl)) (same_new (o := .lst (T.us.map V.bl)) (Same.refl H2) hu) hd) ht
  have ud : u ≠ d := ne_of_none upd_same hd
  have dt : d ≠ t := ne_of_none upd_same ht
  have ut : u ≠ t := ne_of_none (by rw [upd_ne ud]; exact upd_same) ht
  exact ⟨⟨by rw [hx]; exact upd_same, ⟨s3 _ _ hc, by rw [upd_ne ut, upd_ne ud]; exact upd_same, by rw [upd_ne dt]; exact upd_same⟩⟩, s3⟩
section
variable {P : Program} {w : World} {K : PySem.W.Frag} {mg : Str → Option Value} {base : Heap}
abbrev cxL (P : Program) (w : World) (K : PySem.W.Frag) (mg : Str → Option Value) (base : Heap) (cdv : Value) (A : Around) (outer : List Env) (s : Shared) (H : Hp) (E : XK) : L2.Cx := (cxOf CX0 P w K mg base N_law "law" (defScope s_law) (He.ga K "law") cdv A outer s H E).nox
theorem law_tailC (S : LawSrc P w K mg base) {cdv : Value} {A : Around} {outer : List Env} {s : Shared} {H : Hp} {E : XK} {Q : VK} (hr : Room 6 (A.deeper (envOfC "law" (defScope s_law) s.heap.objs.size (He.ga K "law") cdv))) (hq : ∀ H', Q (.bl true) H') :
    ∃ tl, PSs (cxL P w K mg base cdv A outer s H E) ((defBody s_law).drop 10) tl ∧ ∀ (H1 : Hp) (a p bt : Addr) (l h : Int) (y2 y3 y6 y7 y8 y9 y10 y11 y12 y13 y14 y15 y16 y17 y18 y19 y20 y22 y23 : Option V), -20000 ≤ l → l ≤ 20000 → -20000 ≤ h → h ≤ 20000 → h - l < 90 → H1 bt = some (.lst ((List.replicate (h - l + 1).toNat true).map V.bl)) →
      tl { nx := fun _ H' => Q .non H', rt := Q } [some (V.ref a), some (V.ref p), y2, y3, some (V.int l), some (V.int h), y6, y7, y8, y9, y10, y11, y12, y13, y14, y15, y16, y17, y18, y19, y20, some (V.ref bt), y22, y23] H1 := by
  have h4 : Room 4 (A.deeper (envOfC "law" (defScope s_law) s.heap.objs.size (He.ga K "law") cdv)) := hr.mono (by decide)
  have h3 : Room 3 (A.deeper (envOfC "law" (defScope s_law) s.heap.objs.size (He.ga K "law") cdv)) := hr.mono (by decide)
  refine ⟨_, (pss_cons (ps_if (pt_not (pt_val (pe_k S.is h4 (by rfl) pass0 (pa_cons (pe_k S.range h4 (by rfl) (passE (P := P) (w := w)) (pa_cons (pv 4) (pa_cons (pv 5) pa_nil))) (pa_cons (pe_lst (pa_cons (pv 4) (pa_cons (pe_op op_sub (pe_op op_add (pv 4) (pe_callB call_len_seq (by rfl) S.n.len (by decide +kernel) (pa_cons (pv 21) pa_nil))) pe_int) (pa_cons (pv 21) (pa_cons pe_int (pa_cons (pe_lst (pa_cons pe_bl pa_nil)) (pa_cons (pe_lst (pa_cons pe_bl pa_nil)) pa_nil))))))) pa_nil))))) (pss_one (ps_ret pe_bl)) pss_nil)
        (pss_cons (ps_if (pt_not (pt_val (pe_k S.is h4 (by rfl) pass0 (pa_cons (pe_k S.range h4 (by rfl) (passE (P := P) (w := w)) (pa_cons pe_non (pa_cons (pv 5) pa_nil))) (pa_cons (pe_lst (pa_cons (pe_op op_add (pv 5) pe_int) (pa_cons (pv 5) (pa_cons (pe_lst pa_nil) (pa_cons pe_int (pa_cons (pe_lst (pa_cons pe_bl pa_nil)) (pa_cons (pe_lst (pa_cons pe_bl pa_nil)) pa_nil))))))) pa_nil))))) (pss_one (ps_ret pe_bl)) pss_nil)
        (pss_cons (ps_if (pt_not (pt_val (pe_k S.is h4 (by rfl) pass0 (pa_cons (pe_k S.range h4 (by rfl) (passE (P := P) (w := w)) (pa_cons (pv 4) (pa_cons pe_non pa_nil))) (pa_cons (pe_lst (pa_cons (pv 4) (pa_cons (pe_op op_sub (pv 4) pe_int) (pa_cons (pe_lst pa_nil) (pa_cons pe_int (pa_cons (pe_lst (pa_cons pe_bl pa_nil)) (pa_cons (pe_lst (pa_cons pe_bl pa_nil)) pa_nil))))))) pa_nil))))) (pss_one (ps_ret pe_bl)) pss_nil)
        (pss_cons (ps_if (pt_not (pt_val (pe_k S.is h4 (by rfl) pass0 (pa_cons (pe_k S.range h4 (by rfl) (passE (P := P) (w := w)) (pa_cons pe_non (pa_cons pe_non pa_nil))) (pa_cons (pe_lst (pa_cons pe_int (pa_cons (pe_un un_neg pe_int) (pa_cons (pe_lst pa_nil) (pa_cons pe_int (pa_cons (pe_lst (pa_cons pe_bl pa_nil)) (pa_cons (pe_lst (pa_cons pe_bl pa_nil)) pa_nil))))))) pa_nil))))) (pss_one (ps_ret pe_bl)) pss_nil)
        (pss_one (ps_ret (pe_and (pe_k S.is h4 (by rfl) pass0 (pa_cons (pe_k0 S.whl h3 (by rfl) pass0) (pa_cons (pe_lst (pa_cons pe_int (pa_cons (pe_un un_neg pe_int) (pa_cons (pe_lst pa_nil) (pa_cons pe_int (pa_cons (pe_lst (pa_cons pe_bl pa_nil)) (pa_cons (pe_lst (pa_cons pe_bl pa_nil)) pa_nil))))))) pa_nil))) (pe_one (pe_k S.is h4 (by rfl) pass0 (pa_cons (pe_k0 S.emp h3 (by rfl) pass0) (pa_cons (pe_lst (pa_cons pe_int (pa_cons (pe_un un_neg pe_int) (pa_cons (pe_lst pa_nil) (pa_cons pe_int (pa_cons (pe_lst (pa_cons pe_bl pa_nil)) (pa_cons (pe_lst (pa_cons pe_bl pa_nil)) pa_nil))))))) pa_nil))))))))))), ?_⟩
  intro H1 a p bt l h y2 y3 y6 y7 y8 y9 y10 y11 y12 y13 y14 y15 y16 y17 y18 y19 y20 y22 y23 l1 l2 h1 h2 hl eb
  have z0 : (0 : Nat) ≤ sizeLine := Nat.zero_le _
  have z1 : (1 : Nat) ≤ sizeLine := by decide
  have z6 : (6 : Nat) ≤ sizeLine := by decide
  have one1 : ∀ (lo : Int) (cs : List Bool) (b d : Bool), (Tl.mk lo cs [b] [d]).us.length ≤ 100 := fun _ _ _ _ => (by decide : 1 ≤ 100)
  -- range_lot(low, high)
  have rg : ∀ Q' : VK, (∀ v H', Same H1 H' → Right K ⟨l, List.replicate (h - l + 1).toNat true, [false], [false]⟩ H' v → Q' v H') → spRange K [.int l, .int h] H1 Q' E0 := fun Q' k => by
    by_cases c : h < l
    · refine .inr (.inr (.inr (.inl ⟨l, h, rfl, c, fun q H2 s2 la => k _ H2 s2 ?_⟩)))
      rw [show (h - l + 1).toNat = 0 by omega]
      exact right_none one_ok (b := false) (fun x => by rw [show List.replicate 0 true = ([] : List Bool) from rfl, emp_has]; split <;> rfl) (fun x => one_U x) (fun x => one_D x) rfl la
    · have e0 : ∀ x, (Tl.mk l (List.replicate (h - l + 1).toNat true) [false] [false]).has x = (tlOf l (h + 1 - l).toNat (irow l (h + 1 - l).toNat) 1 [] []).has x := fun x => by
        rw [tlOf_has (by decide)]
        unfold Tl.has lotHas
        rw [one_U, one_D]
        show (if x < l then false else if l + ((List.replicate (h - l + 1).toNat true).length : Int) - 1 < x then false else (List.replicate (h - l + 1).toNat true).getD (x - l).toNat false) = _
        rw [List.length_replicate]
        by_cases c1 : x < l
        · rw [if_pos c1, if_neg (by omega), if_pos c1]
          rfl
        · rw [if_neg c1]
          by_cases c2 : l + ((h - l + 1).toNat : Int) - 1 < x
          · rw [if_pos c2, if_pos (by omega)]
            rfl
          · rw [if_neg c2, if_neg (by omega), if_neg c1, decide_eq_true (mem_irow.mpr (by omega)), List.getD_eq_getElem?_getD, List.getElem?_replicate, if_pos (by omega)]
            rfl
      refine .inr (.inr (.inr (.inr ⟨l, h, rfl, by omega, by omega, ⟨l1, h2⟩, lotEnd_of ?_ fun v H2 s2 R => k v H2 s2 ?_⟩)))
      · refine inr_fin l1 h2 (fun x hx => ?_) (fun x => by rw [tlOf_U (by decide)]; rfl) (fun x => by rw [tlOf_D (by decide)]; rfl)
        rw [tlOf_has (by decide)] at hx
        unfold lotHas at hx
        by_cases c1 : l + ((h + 1 - l).toNat : Int) - 1 < x
        · rw [if_pos c1] at hx; simp at hx
        · rw [if_neg c1] at hx
          by_cases c2 : x < l
          · rw [if_pos c2] at hx; simp at hx
          · omega
      · exact R.cong (fun x => (e0 x).symm) (fun x => by rw [tlOf_U (by decide), one_U]; rfl) (fun x => by rw [tlOf_D (by decide), one_D]; rfl)
  refine ⟨_, rfl, _, rfl, ?_⟩
  dsimp only [tNil, List.append_nil]
  refine rg _ fun v H2 s2 R => ?_
  have eb2 := s2 _ _ eb
  refine ⟨_, rfl, _, rfl, _, rfl, bt, _, rfl, .inl (SqL.of eb2), _, _, rfl, rfl, _, _, rfl, rfl, _, rfl, z1, fun u hu => ⟨z1, fun d hd => ⟨z6, fun t ht => ?_⟩⟩⟩
  obtain ⟨ta, s3⟩ := tell_lit (T := ⟨l, List.replicate (h - l + 1).toNat true, [false], [false]⟩) (xs := [.int l, .int (l + (((List.replicate (h - l + 1).toNat true).map V.bl).length : Int) - 1), .ref bt, .int 1, .ref u, .ref d]) eb2 hu hd ht (by rw [List.length_map]; rfl)
  dsimp only [tNil, List.append_nil]
  refine is_of ta (one_near (by rw [List.length_replicate]; omega) (by omega)) (one1 _ _ _ _) (by show (List.replicate (h - l + 1).toNat true).length ≤ 100; rw [List.length_replicate]; omega) (R.same s3) fun H3 s4 => ⟨_, rfl, iteF ?_⟩
  -- range_lot(None, high)
  have hasL : ∀ x, (tlOf (h + 1) 0 [] 1 [] [0]).has x = decide (x ≤ h) := fun x => by
    rw [tlOf_has (by decide)]
    unfold lotHas
    by_cases c1 : h + 1 + ((0 : Nat) : Int) - 1 < x
    · rw [if_pos c1, decide_eq_false (by omega : ¬ x ≤ h)]
      exact decide_eq_false (fun z => nomatch z)
    · rw [if_neg c1, if_pos (by omega), decide_eq_true (by omega : x ≤ h), show x % ((1 : Nat) : Int) = 0 by omega]
      rfl
  have hasU : ∀ x, (tlOf l 0 [] 1 [0] []).has x = decide (l ≤ x) := fun x => by
    rw [tlOf_has (by decide)]
    unfold lotHas
    by_cases c1 : l + ((0 : Nat) : Int) - 1 < x
    · rw [if_pos c1, decide_eq_true (by omega : l ≤ x), show x % ((1 : Nat) : Int) = 0 by omega]
      rfl
    · rw [if_neg c1, if_pos (by omega), decide_eq_false (by omega : ¬ l ≤ x)]
      exact decide_eq_false (fun z => nomatch z)
  have nilU : ∀ (lo x : Int) (ds : List Int), (tlOf lo 0 [] 1 [] ds).U x = false := fun lo x ds => (tlOf_U (by decide) x).trans (decide_eq_false (fun z => nomatch z))
  have nilD : ∀ (lo x : Int) (us : List Int), (tlOf lo 0 [] 1 us []).D x = false := fun lo x us => (tlOf_D (by decide) x).trans (decide_eq_false (fun z => nomatch z))
  have zerU : ∀ (lo x : Int) (ds : List Int), (tlOf lo 0 [] 1 [0] ds).U x = true := fun lo x ds => (tlOf_U (by decide) x).trans (by rw [show x % ((1 : Nat) : Int) = 0 by omega]; rfl)
  have zerD : ∀ (lo x : Int) (us : List Int), (tlOf lo 0 [] 1 us [0]).D x = true := fun lo x us => (tlOf_D (by decide) x).trans (by rw [show x % ((1 : Nat) : Int) = 0 by omega]; rfl)
  have inL : InR (tlOf (h + 1) 0 [] 1 [] [0]) := inr_low (h := h) h1 h2 hasL (fun x => nilU _ x _) (fun x => zerD _ x _)
  have inU : InR (tlOf l 0 [] 1 [0] []) := inr_up (l := l) l1 l2 hasU (fun x => zerU _ x _) (fun x => nilD _ x _)
  refine ⟨_, rfl, .inr (.inl ⟨h, rfl, ⟨h1, h2⟩, lotEnd_of inL fun v2 H4 s5 R2 => ?_⟩)⟩
  refine ⟨_, rfl, _, _, rfl, rfl, _, rfl, z0, fun c2 hc2 => ⟨z1, fun u2 hu2 => ⟨z1, fun d2 hd2 => ⟨z6, fun t2 ht2 => ?_⟩⟩⟩⟩
  obtain ⟨ta2, s6⟩ := tell_lit (T := ⟨h + 1, [], [false], [true]⟩) (xs := [.int (h + 1), .int h, .ref c2, .int 1, .ref u2, .ref d2]) upd_same hu2 hd2 ht2 (by
    show _ = [V.int (h + 1), V.int (h + 1 + ((0 : Nat) : Int) - 1), V.ref c2, V.int 1, V.ref u2, V.ref d2]
    rw [show h + 1 + ((0 : Nat) : Int) - 1 = h by omega])
  dsimp only [tNil, List.append_nil]
  refine is_of ta2 (one_near (Nat.zero_le _) (by omega)) (one1 _ _ _ _) (Nat.zero_le _) ((R2.cong (fun x => ?_) (fun x => (nilU _ x _).trans (one_U x).symm) (fun x => (zerD _ x _).trans (one_D x).symm)).same ((same_new (Same.refl H4) hc2).trans s6)) fun H5 s7 => ⟨_, rfl, iteF ?_⟩
  · rw [hasL, emp_has]
    by_cases c1 : x < h + 1
    · rw [if_pos c1, decide_eq_true (by omega)]
    · rw [if_neg c1, decide_eq_false (by omega)]
  -- range_lot(low, None)
  refine ⟨_, rfl, .inr (.inr (.inl ⟨l, rfl, ⟨l1, l2⟩, lotEnd_of inU fun v3 H6 s8 R3 => ?_⟩))⟩
  refine ⟨_, rfl, _, rfl, _, _, rfl, rfl, z0, fun c3 hc3 => ⟨z1, fun u3 hu3 => ⟨z1, fun d3 hd3 => ⟨z6, fun t3 ht3 => ?_⟩⟩⟩⟩
  obtain ⟨ta3, s9⟩ := tell_lit (T := ⟨l, [], [true], [false]⟩) (xs := [.int l, .int (l - 1), .ref c3, .int 1, .ref u3, .ref d3]) upd_same hu3 hd3 ht3 (by
    show _ = [V.int l, V.int (l + ((0 : Nat) : Int) - 1), V.ref c3, V.int 1, V.ref u3, V.ref d3]
    rw [show l + ((0 : Nat) : Int) - 1 = l - 1 by omega])
  dsimp only [tNil, List.append_nil]
  refine is_of ta3 (one_near (Nat.zero_le _) (by omega)) (one1 _ _ _ _) (Nat.zero_le _) ((R3.cong (fun x => ?_) (fun x => (zerU _ x _).trans (one_U x).symm) (fun x => (nilD _ x _).trans (one_D x).symm)).same ((same_new (Same.refl H6) hc3).trans s9)) fun H7 s10 => ⟨_, rfl, iteF ?_⟩
  · rw [hasU, emp_has]
    by_cases c1 : x < l
    · rw [if_pos c1, decide_eq_false (by omega)]
    · rw [if_neg c1, decide_eq_true (by omega)]
  -- range_lot(None, None)
  have whole : ∀ (Hx : Hp) (q : Addr), LotAt (He.ga K "Lot") Hx q 0 (-1) [] 1 [0] [0] → Right K ⟨0, [], [true], [true]⟩ Hx (.ref q) := fun Hx q la => right_none one_ok (b := true) (fun x => by rw [emp_has]; split <;> rfl) (fun x => one_U x) (fun x => one_D x) rfl la
  have none_ : ∀ (Hx : Hp) (q : Addr), LotAt (He.ga K "Lot") Hx q 0 (-1) [] 1 [] [] → Right K ⟨0, [], [false], [false]⟩ Hx (.ref q) := fun Hx q la => right_none one_ok (b := false) (fun x => by rw [emp_has]; split <;> rfl) (fun x => one_U x) (fun x => one_D x) rfl la
  refine .inl ⟨rfl, fun q4 H8 s11 la4 => ?_⟩
  refine ⟨_, rfl, z0, fun c4 hc4 => ⟨z1, fun u4 hu4 => ⟨z1, fun d4 hd4 => ⟨z6, fun t4 ht4 => ?_⟩⟩⟩⟩
  obtain ⟨ta4, s12⟩ := tell_lit (T := ⟨0, [], [true], [true]⟩) (xs := [.int 0, .int (-1), .ref c4, .int 1, .ref u4, .ref d4]) upd_same hu4 hd4 ht4 rfl
  dsimp only [tNil, List.append_nil]
  refine is_of ta4 (one_near (Nat.zero_le _) (by decide)) (one1 _ _ _ _) (Nat.zero_le _) ((whole _ _ la4).same ((same_new (Same.refl H8) hc4).trans s12)) fun H9 s13 => ⟨_, rfl, iteF ?_⟩
  refine ⟨rfl, fun q5 H10 s14 la5 => ?_⟩
  refine ⟨_, rfl, z0, fun c5 hc5 => ⟨z1, fun u5 hu5 => ⟨z1, fun d5 hd5 => ⟨z6, fun t5 ht5 => ?_⟩⟩⟩⟩
  obtain ⟨ta5, s15⟩ := tell_lit (T := ⟨0, [], [true], [true]⟩) (xs := [.int 0, .int (-1), .ref c5, .int 1, .ref u5, .ref d5]) upd_same hu5 hd5 ht5 rfl
  dsimp only [tNil, List.append_nil]
  refine is_of ta5 (one_near (Nat.zero_le _) (by decide)) (one1 _ _ _ _) (Nat.zero_le _) ((whole _ _ la5).same ((same_new (Same.refl H10) hc5).trans s15)) fun H11 s16 => ⟨_, rfl, iteT ?_⟩
  refine ⟨rfl, fun q6 H12 s17 la6 => ?_⟩
  refine ⟨_, rfl, z0, fun c6 hc6 => ⟨z1, fun u6 hu6 => ⟨z1, fun d6 hd6 => ⟨z6, fun t6 ht6 => ?_⟩⟩⟩⟩
  obtain ⟨ta6, s18⟩ := tell_lit (T := ⟨0, [], [false], [false]⟩) (xs := [.int 0, .int (-1), .ref c6, .int 1, .ref u6, .ref d6]) upd_same hu6 hd6 ht6 rfl
  dsimp only [tNil, List.append_nil]
  exact is_of ta6 (one_near (Nat.zero_le _) (by decide)) (one1 _ _ _ _) (Nat.zero_le _) ((none_ _ _ la6).same ((same_new (Same.refl H12) hc6).trans s18)) fun H13 s19 => hq H13
end
end My
set_option Elab.async false
set_option linter.all false
set_option maxRecDepth 100000
set_option maxHeartbeats 8000000
namespace My
open PySem PySem.Spec PyProof.Rows L2
local macro_rules | `(tactic| walk_at "lv") => `(tactic| first | exact Or.inl rfl | exact Or.inr rfl)
/-- a row of numbers told one by one, none beyond -/
theorem row_has {lo : Int} {n : Nat} {S : Int → Bool} (x : Int) : (Tl.mk lo ((List.range n).map fun (k : Nat) => S (lo + (k : Int))) [false] [false]).has x = (decide (lo ≤ x ∧ x < lo + n) && S x) := by
  have e : (Tl.mk lo ((List.range n).map fun (k : Nat) => S (lo + (k : Int))) [false] [false]).hi = lo + n - 1 := by
    show lo + (((List.range n).map fun (k : Nat) => S (lo + (k : Int))).length : Int) - 1 = _; rw [List.length_map, List.length_range]
  unfold Tl.has
  rw [one_U, one_D, e]
  show (if x < lo then false else if lo + (n : Int) - 1 < x then false else ((List.range n).map fun (k : Nat) => S (lo + (k : Int))).getD (x - lo).toNat false) = _
  by_cases c1 : x < lo
  · rw [if_pos c1, decide_eq_false (fun z => by omega)]
    rfl
  · rw [if_neg c1]
    by_cases c2 : lo + (n : Int) - 1 < x
    · rw [if_pos c2, decide_eq_false (fun z => by omega)]
      rfl
    · rw [if_neg c2, getD_rng (by omega), show lo + ((x - lo).toNat : Int) = x by omega, decide_eq_true (by omega), Bool.true_and]
theorem lc_nums {σ : L2.St} {H : Hp} {Q : VK} {i : Nat} {p c : Addr} (h1 : σ[1]? = some (some (.ref p))) (hh : HandC H p c) (hp : ∀ v, ((wipe σ [i]).set i (some v))[1]? = some (some (.ref p)))
    (hw : ∀ v, wipe ((wipe σ [i]).set i (some v)) [i] = wipe σ [i])
    (k : ∀ D (ns : List Int) H', H D = none → H' D = some (.lst (ns.map V.int)) → ns.length ≤ 6 → (∀ x ∈ ns, -12 ≤ x ∧ x ≤ 12) → HandC H' p c → But p H H' → Q (.ref D) H') :
    tLc (iRng1 (tCons (tCall spDraw [] E0 (tCons (tVar 1) (tCons (tC (.int 6)) tNil))) tNil)) (gName i) tYes (tOp (rI0 fun i j => .int (i - j)) (tCall spDraw [] E0 (tCons (tVar 1) (tCons (tC (.int 25)) tNil))) (tC (.int 12))) [i] σ H Q := by
  refine ⟨_, h1, p, c, 6, rfl, hh, ⟨by decide, by decide⟩, fun m H0 m0 m1 h0 b0 => ⟨_, rfl, by omega, by omega, fun D hD => ?_⟩⟩
  obtain ⟨n, rfl⟩ := Int.eq_ofNat_of_zero_le m0
  rw [show ((n : Int)).toNat = n by omega]
  have hn := h0.ne hD
  have hDH : H D = none := by
    cases e : H D with
    | none => rfl
    | some o =>
      by_cases q : D = p
      · obtain ⟨_, _, _, _, z, _⟩ := h0
        rw [q] at hD
        rw [hD] at z
        cases z
      · rw [b0 D o q e] at hD
        cases hD
  refine lc_range (lo := 0) (n := n) (fun x H2 => ∃ ns : List Int, ns.length = x ∧ H2 D = some (.lst (ns.map V.int)) ∧ (∀ x ∈ ns, -12 ≤ x ∧ x ≤ 12) ∧ HandC H2 p c ∧ But p H0 H2) ⟨[], rfl, upd_same, (fun _ z => nomatch z), h0.upd hn.1 hn.2, fun b o hb e => by rw [upd_ne (ne_of_none e hD)]; exact e⟩ ?_ ?_
  · rintro x H2 hx ⟨ns, hl, e, bd, h2, b2⟩
    refine ⟨hw _, _, hp _, p, c, 25, rfl, h2, ⟨by decide, by decide⟩, fun r H3 r0 r1 h3 b3 => ⟨_, _, rfl, rfl, _, b3 _ _ hn.1.symm e, small1000 (by rw [List.length_map]; omega), ns ++ [r - 12], by rw [List.length_append, hl]; rfl, ?_, ?_, h3.upd hn.1 hn.2, fun b o hb z => ?_⟩⟩
    · rw [List.map_append]
      exact upd_same
    · intro y hy
      rcases List.mem_append.mp hy with z | z
      · exact bd y z
      · rw [List.mem_singleton.mp z]; omega
    · rw [upd_ne (ne_of_none z hD)]
      exact b3 _ _ hb (b2 _ _ hb z)
  · rintro H2 ⟨ns, hl, e, bd, h2, b2⟩
    exact k D ns H2 hDH e (by omega) bd h2 (b0.trans b2)
section
variable {P : Program} {w : World} {K : PySem.W.Frag} {mg : Str → Option Value} {base : Heap}
theorem law_tailB (S : LawSrc P w K mg base) {cdv : Value} {A : Around} {outer : List Env} {s : Shared} {H : Hp} {E : XK} {Q : VK} (hr : Room 6 (A.deeper (envOfC "law" (defScope s_law) s.heap.objs.size (He.ga K "law") cdv))) (hq : ∀ H', Q (.bl true) H') :
    ∃ tl, PSs (cxL P w K mg base cdv A outer s H E) ((defBody s_law).drop 2) tl ∧ ∀ (H1 : Hp) (a p c : Addr) (y2 y3 y4 y5 y6 y7 y8 y9 y10 y11 y12 y13 y14 y15 y16 y17 y18 y19 y20 y21 y22 y23 : Option V), HandC H1 p c → tl { nx := fun _ H' => Q .non H', rt := Q } [some (V.ref a), some (V.ref p), y2, y3, y4, y5, y6, y7, y8, y9, y10, y11, y12, y13, y14, y15, y16, y17, y18, y19, y20, y21, y22, y23] H1 := by
  have h4 : Room 4 (A.deeper (envOfC "law" (defScope s_law) s.heap.objs.size (He.ga K "law") cdv)) := hr.mono (by decide)
  have h2 : Room 2 (A.deeper (envOfC "law" (defScope s_law) s.heap.objs.size (He.ga K "law") cdv)) := hr.mono (by decide)
  obtain ⟨tC, dtC, endC⟩ := law_tailC S (outer := outer) (H := H) (E := E) hr hq
  refine ⟨_, (pss_cons (ps_set (i := 18) sc_law.nd rfl (by walk_at "lv") (pe_lc (own := [("_law_k", 22)]) (g := gName 22) (tt := tYes) rfl sc_law.nd (pi_range1 (by rfl) S.n.range (pa_cons (pe_k S.draw h2 (by rfl) pass0 (pa_cons (pv 1) (pa_cons pe_int pa_nil))) pa_nil)) (blkOk_by (N := N_law) (sc := defScope s_law) (by decide +kernel)) (fun _ _ _ _ _ => (pg_name (i := 22) sc_law.nd rfl (by walk_at "lv"))) (fun _ _ _ _ _ => pts_nil) (fun _ _ _ _ _ => (pe_op op_sub (pe_k S.draw h2 (by rfl) pass0 (pa_cons (pv 1) (pa_cons pe_int pa_nil))) pe_int))))
        (pss_cons (ps_set (i := 19) sc_law.nd rfl (by walk_at "lv") (pe_callTy call_list_of (by rfl) S.n.list (by decide +kernel) (pa_cons (pv 18) pa_nil)))
        (pss_cons (ps_setLc (i := 20) (own := [("_law_n", 23)]) (g := gName 23) (tt := tYes) rfl sc_law.nd rfl rfl (sw_true rfl rfl rfl (by decide +kernel)) (pi_range2 (by rfl) S.n.range (pa_cons (pe_un un_neg pe_int) (pa_cons pe_int pa_nil))) (blkOk_by (N := N_law) (sc := defScope s_law) (by decide +kernel)) (fun _ _ _ _ _ => (pg_name (i := 23) sc_law.nd rfl (by walk_at "lv"))) (fun _ _ _ _ _ => pts_nil) (fun _ _ _ _ _ => (pe_cmpR op_in_seq (r := rIn K false) (pv 23) (pv 18) (by rfl))))
        (pss_cons (ps_if (PW.pt (pw_or (pt_not (pt_val (pe_k S.is h4 (by rfl) pass0 (pa_cons (pe_k S.just h4 (by rfl) (passE (P := P) (w := w)) (pa_cons (pv 18) pa_nil)) (pa_cons (pe_lst (pa_cons (pe_un un_neg pe_int) (pa_cons pe_int (pa_cons (pv 20) (pa_cons pe_int (pa_cons (pe_lst (pa_cons pe_bl pa_nil)) (pa_cons (pe_lst (pa_cons pe_bl pa_nil)) pa_nil))))))) pa_nil))))) (pw_or1 (pt_cmpR (op_neD hr.units) (pv 18) (pv 19) (nomark _))))) (pss_one (ps_ret pe_bl)) pss_nil)
        (pss_cons (ps_set (i := 4) sc_law.nd rfl (by walk_at "lv") (pe_op op_sub (pe_k S.draw h2 (by rfl) pass0 (pa_cons (pv 1) (pa_cons pe_int pa_nil))) pe_int))
        (pss_cons (ps_set (i := 5) sc_law.nd rfl (by walk_at "lv") (pe_op op_sub (pe_op op_add (pv 4) (pe_k S.draw h2 (by rfl) pass0 (pa_cons (pv 1) (pa_cons pe_int pa_nil)))) pe_int))
        (pss_cons (ps_if (PW.pt (pw_or (pt_cmpR op_gt (pv 5) pe_int (nomark _)) (pw_or1 (pt_cmpR op_lt (pv 5) (pe_un un_neg pe_int) (nomark _))))) (pss_one (ps_set (i := 5) sc_law.nd rfl (by walk_at "lv") (pv 4))) pss_nil)
        (pss_cons (ps_set (i := 21) sc_law.nd rfl (by walk_at "lv") (pe_op op_rep (pe_lst (pa_cons pe_bl pa_nil)) (pe_op op_add (pe_op op_sub (pv 5) (pv 4)) pe_int))) dtC)))))))), ?_⟩
  intro H1 a p c y2 y3 y4 y5 y6 y7 y8 y9 y10 y11 y12 y13 y14 y15 y16 y17 y18 y19 y20 y21 y22 y23 hh
  have z1 : (1 : Nat) ≤ sizeLine := by decide
  have z6 : (6 : Nat) ≤ sizeLine := by decide
  dsimp only [tSeq, tAsg]
  refine lc_nums (i := 22) (p := p) (c := c) ?_ hh ?_ ?_ fun D ns H2 nD eD ln bd h2' b2 => ?_
  · rfl
  · exact fun _ => rfl
  · exact fun _ => rfl
  refine ⟨_, rfl, D, _, rfl, .inl (SqL.of eD), fun k hk => ?_⟩
  have s3 := same_new (o := .lst (ns.map V.int)) (Same.refl H2) hk
  have eD3 := s3 _ _ eD
  have ek : (upd H2 k (.lst (ns.map V.int))) k = some (.lst (ns.map V.int)) := upd_same
  generalize upd H2 k (.lst (ns.map V.int)) = H3 at s3 eD3 ek ⊢
  refine ⟨_, rfl, _, _, rfl, ⟨by decide, by decide, by decide, by decide⟩, fun R hR => ?_⟩
  refine lc_itF (G := fun _ => True) walk_range hR (fun i => ((List.range i).map fun (k : Nat) => decide (-12 + (k : Int) ∈ ns)).map V.bl) rfl (fun i hi' => small1000 (by rw [List.length_map, List.length_map, List.length_range]; have : i < 25 := hi'; omega)) (fun _ _ => trivial) ?_ ?_ ?_ ?_ ?_
  · rintro i x H4 H5 hi' e s4 ⟨rfl, rfl⟩
    refine ⟨rfl, _, rfl, _, rfl, D, _, rfl, .inl (SqL.of (s4 _ _ eD3)), rfl, flat_ints _, e, s4, ?_⟩
    rw [inV_ints, List.range_succ, List.map_append, List.map_append]
    rfl
  · exact fun x H' Q Q' h q => h _ _ q
  · exact fun σ2 H2 Q1 Q2 h q => h _ _ q
  · rintro σ2 H2 Q1 Q2 h ⟨x1, g1, x2, g2, p', xs', f1, f2, f3, f4, q⟩
    exact ⟨x1, g1, x2, g2, p', xs', f1, f2, f3, f4, h _ _ q⟩
  intro H6 eR s6
  have eD6 := s6 _ _ eD3
  have ek6 := s6 _ _ ek
  have h6 := (h2'.same s3).same s6
  let T : Tl := ⟨-12, (List.range 25).map fun (k : Nat) => decide (-12 + (k : Int) ∈ ns), [false], [false]⟩
  have hT : ∀ x, T.has x = decide (x ∈ ns) := fun x => by
    refine (row_has (S := fun y => decide (y ∈ ns)) x).trans ?_
    show (decide (-12 ≤ x ∧ x < -12 + ((25 : Nat) : Int)) && decide (x ∈ ns)) = decide (x ∈ ns)
    by_cases c1 : x ∈ ns
    · have := bd x c1
      rw [decide_eq_true c1, decide_eq_true (by omega)]
      rfl
    · rw [decide_eq_false c1, Bool.and_false]
  have jst : ∀ Q' : VK, (∀ v H', Same H6 H' → Right K T H' v → Q' v H') → spJust K [.ref D] H6 Q' E0 := fun Q' kk => by
    refine ⟨D, ns, rfl, eD6, fun x hx => by have := bd x hx; omega, fun x hx y hy => by have := bd x hx; have := bd y hy; omega, fun z q H7 s7 la => ?_, fun l h hl ll hh' lh => ?_⟩
    · subst z
      exact kk _ H7 s7 (right_none one_ok (b := false) (fun x => (hT x).trans (decide_eq_false (fun z => nomatch z))) (fun x => one_U x) (fun x => one_D x) rfl la)
    · have nU : ∀ x, (tlOf l (h + 1 - l).toNat ns 1 [] []).U x = false := fun x => (tlOf_U (by decide) x).trans (decide_eq_false (fun z => nomatch z))
      have nD' : ∀ x, (tlOf l (h + 1 - l).toNat ns 1 [] []).D x = false := fun x => (tlOf_D (by decide) x).trans (decide_eq_false (fun z => nomatch z))
      have b1 := bd l hl
      have b2 := bd h hh'
      have hlh := ll h hh'
      have e0 : ∀ x, (tlOf l (h + 1 - l).toNat ns 1 [] []).has x = decide (x ∈ ns) := fun x => by
        rw [tlOf_has (by decide)]
        unfold lotHas
        by_cases c1 : l + ((h + 1 - l).toNat : Int) - 1 < x
        · rw [if_pos c1]
          exact (decide_eq_false (fun z => nomatch z)).trans (decide_eq_false fun z => by have := lh x z; omega).symm
        · rw [if_neg c1]
          by_cases c2 : x < l
          · rw [if_pos c2]
            exact (decide_eq_false (fun z => nomatch z)).trans (decide_eq_false fun z => by have := ll x z; omega).symm
          · rw [if_neg c2]
      exact lotEnd_of (inr_fin (A := -12) (B := 12) (by decide) (by decide) (fun x hx => by rw [e0] at hx; exact bd x (of_decide_eq_true hx)) nU nD') fun v H7 s7 R => kk v H7 s7 (R.cong (fun x => (e0 x).trans (hT x).symm) (fun x => (nU x).trans (one_U x).symm) (fun x => (nD' x).trans (one_D x).symm))
  refine ⟨_, rfl, ?_⟩
  dsimp only [tNil, List.append_nil]
  refine jst _ fun v H7 s7 Rv => ?_
  refine ⟨_, rfl, _, rfl, z1, fun u hu => ⟨z1, fun d hd => ⟨z6, fun t ht => ?_⟩⟩⟩
  have eR7 := s7 _ _ eR
  obtain ⟨ta, s8⟩ := tell_lit (T := T) (xs := [.int (-12), .int 12, .ref R, .int 1, .ref u, .ref d]) eR7 hu hd ht rfl
  dsimp only [tNil, List.append_nil]
  refine is_of ta (one_near (by rw [List.length_map, List.length_range]; decide) (by decide)) (by decide : 1 ≤ 100) (by show ((List.range 25).map _).length ≤ 100; rw [List.length_map, List.length_range]; decide) (Rv.same s8) fun H8 s9 => ⟨_, rfl, iteF ?_⟩
  have s79 := s7.trans (s8.trans s9)
  refine ⟨_, rfl, _, rfl, _, _, .lst (SqL.of (s79 _ _ eD6)) (dp_ints ns), .lst (SqL.of (s79 _ _ ek6)) (dp_ints ns), shp_lst (lay_ints ns).1 (lay_ints ns).2 (by decide), shp_lst (lay_ints ns).1 (lay_ints ns).2 (by decide), _, rfl, ?_⟩
  rw [show (!PyData.eqv (.list (ns.map PyData.int)) (.list (ns.map PyData.int))) = false by rw [show PyData.eqv (.list (ns.map PyData.int)) (.list (ns.map PyData.int)) = decide (ns = ns) from eqv_ints ns ns, decide_eq_true rfl]; rfl]
  refine iteF ?_
  have h8 := h6.same s79
  refine ⟨_, rfl, p, c, 40001, rfl, h8, ⟨by decide, by decide +kernel⟩, fun r H9 r0 r1 h9 b9 => ⟨_, _, rfl, rfl, ?_⟩⟩
  refine ⟨_, rfl, _, rfl, p, c, 30, rfl, h9, ⟨by decide, by decide⟩, fun r2 H10 r20 r21 h10 b10 => ⟨_, _, rfl, rfl, _, _, rfl, rfl, ?_⟩⟩
  -- the greatest number, or the least one where it lies too far
  refine ⟨_, rfl, _, _, rfl, rfl, _, rfl, ite2 (fun q1 => ?_) (fun q1 => ?_)⟩
  · have q1 : r - 20000 + r2 - 10 > 20000 := of_decide_eq_true q1
    refine ⟨_, rfl, ?_⟩
    refine ⟨z1, fun lb hlb => ⟨_, rfl, _, rfl, _, _, rfl, rfl, _, _, rfl, rfl, lb, _, _, rfl, rfl, upd_same, by omega, by omega, ?_, fun bt hbt => ?_⟩⟩
    · show 1 * _ ≤ _
      rw [Nat.one_mul]
      exact Nat.le_of_lt (small1000 (by omega))
    · exact endC _ _ _ bt _ _ _ _ _ _ _ _ _ _ _ _ _ _ _ _ _ _ _ _ _ (by omega) (by omega) (by omega) (by omega) (by omega) (by rw [rep_flat, List.map_replicate]; exact upd_same)
  · have q1 : ¬ r - 20000 + r2 - 10 > 20000 := fun z => q1 (decide_eq_true z)
    refine ⟨_, rfl, _, rfl, _, _, rfl, rfl, _, rfl, ite2 (fun q2 => ?_) (fun q2 => ?_)⟩
    · have q2 : r - 20000 + r2 - 10 < -20000 := of_decide_eq_true q2
      refine ⟨_, rfl, ?_⟩
      refine ⟨z1, fun lb hlb => ⟨_, rfl, _, rfl, _, _, rfl, rfl, _, _, rfl, rfl, lb, _, _, rfl, rfl, upd_same, by omega, by omega, ?_, fun bt hbt => ?_⟩⟩
      · show 1 * _ ≤ _
        rw [Nat.one_mul]
        exact Nat.le_of_lt (small1000 (by omega))
      · exact endC _ _ _ bt _ _ _ _ _ _ _ _ _ _ _ _ _ _ _ _ _ _ _ _ _ (by omega) (by omega) (by omega) (by omega) (by omega) (by rw [rep_flat, List.map_replicate]; exact upd_same)
    · have q2 : ¬ r - 20000 + r2 - 10 < -20000 := fun z => q2 (decide_eq_true z)
      refine ⟨z1, fun lb hlb => ⟨_, rfl, _, rfl, _, _, rfl, rfl, _, _, rfl, rfl, lb, _, _, rfl, rfl, upd_same, by omega, by omega, ?_, fun bt hbt => ?_⟩⟩
      · show 1 * _ ≤ _
        rw [Nat.one_mul]
        exact Nat.le_of_lt (small1000 (by omega))
      · exact endC _ _ _ bt _ _ _ _ _ _ _ _ _ _ _ _ _ _ _ _ _ _ _ _ _ (by omega) (by omega) (by omega) (by omega) (by omega) (by rw [rep_flat, List.map_replicate]; exact upd_same)
end
end My
set_option Elab.async false
set_option linter.all false
set_option maxRecDepth 100000
set_option maxHeartbeats 8000000
namespace My
open PySem PySem.Spec PyProof.Rows L2
local macro_rules | `(tactic| walk_at "lv") => `(tactic| first | exact Or.inl rfl | exact Or.inr rfl)
def forBody (st : Stmt) (i : Nat) : List Stmt := match (defBody st)[i]? with
  | some (.For _ _ b _ _) => b
  | _ => []
def PvL (a p c : Addr) : L2.St → Hp → Prop := fun σ H2 => ∃ (y2 y3 y4 y5 y6 y7 y8 y9 y10 y11 y12 y13 y14 y15 y16 y17 y18 y19 y20 y21 y22 y23 : Option V), σ = [some (V.ref a), some (V.ref p), y2, y3, y4, y5, y6, y7, y8, y9, y10, y11, y12, y13, y14, y15, y16, y17, y18, y19, y20, y21, y22, y23] ∧ HandC H2 p c
/-- what a turn knows of its telling and its lot -/
structure Turn (K : PySem.W.Frag) (H : Hp) (p c t c' u d q l : Addr) (T : Tl) (lo hi : Int) (m : Nat) : Prop where
  h : HandC H p c
  t : TellAt H t T c' u d
  dr : Drawn T
  f : IsForm T.has T.U T.D lo hi m
  b1 : -20000 ≤ lo
  b2 : hi ≤ 20000
  q : FormAt H q lo hi (insOf T lo hi) m (resOf T.U m) (resOf T.D m)
  l : LotAt (He.ga K "Lot") H l lo hi (insOf T lo hi) m (resOf T.U m) (resOf T.D m)
theorem Turn.but {K : PySem.W.Frag} {H H' : Hp} {p c t c' u d q l : Addr} {T : Tl} {lo hi : Int} {m : Nat} (x : Turn K H p c t c' u d q l T lo hi m) (h : HandC H' p c) (b : But p H H') : Turn K H' p c t c' u d q l T lo hi m :=
  ⟨h, x.t.but x.h b, x.dr, x.f, x.b1, x.b2, x.q.but x.h b, x.l.but x.h b⟩
theorem Turn.same {K : PySem.W.Frag} {H H' : Hp} {p c t c' u d q l : Addr} {T : Tl} {lo hi : Int} {m : Nat} (x : Turn K H p c t c' u d q l T lo hi m) (s : Same H H') : Turn K H' p c t c' u d q l T lo hi m :=
  ⟨x.h.same s, x.t.same s, x.dr, x.f, x.b1, x.b2, x.q.same s, x.l.same s⟩
theorem bits_has {bs : List Bool} (x : Int) : (Tl.mk 0 bs [false] [false]).has x = (decide (0 ≤ x ∧ x < bs.length) && bs.getD x.toNat false) := by
  unfold Tl.has
  rw [one_U, one_D]
  show (if x < 0 then false else if 0 + (bs.length : Int) - 1 < x then false else bs.getD (x - 0).toNat false) = _
  by_cases c1 : x < 0
  · rw [if_pos c1, decide_eq_false (fun z => by omega)]
    rfl
  · rw [if_neg c1]
    by_cases c2 : 0 + (bs.length : Int) - 1 < x
    · rw [if_pos c2, decide_eq_false (fun z => by omega)]
      rfl
    · rw [if_neg c2, show x - 0 = x by omega, decide_eq_true (by omega), Bool.true_and]
section
variable {P : Program} {w : World} {K : PySem.W.Frag} {mg : Str → Option Value} {base : Heap}
theorem body_X3 (S : LawSrc P w K mg base) {cdv : Value} {A : Around} {outer : List Env} {s : Shared} {H : Hp} {E : XK} {Q : VK} (hr : Room 6 (A.deeper (envOfC "law" (defScope s_law) s.heap.objs.size (He.ga K "law") cdv))) :
    ∃ tl, PSs (cxL P w K mg base cdv A outer s H E) ((forBody s_law 1).drop 11) tl ∧ ∀ (H1 : Hp) (a p c t c' u d q l : Addr) (T : Tl) (lo hi : Int) (m : Nat) (y2 y12 y13 y14 y15 y16 y17 y18 y19 y20 y21 y22 y23 : Option V) (B : L2.St → Hp → Prop), Turn K H1 p c t c' u d q l T lo hi m →
      tl { nx := PvL a p c, rt := Q, bk := B, ct := PvL a p c } [some (V.ref a), some (V.ref p), y2, some (V.ref t), some (V.int T.lo), some (V.int T.hi), some (V.ref c'), some (V.int T.us.length), some (V.ref u), some (V.ref d), some (V.ref l), some (V.ref q), y12, y13, y14, y15, y16, y17, y18, y19, y20, y21, y22, y23] H1 := by
  have h4 : Room 4 (A.deeper (envOfC "law" (defScope s_law) s.heap.objs.size (He.ga K "law") cdv)) := hr.mono (by decide)
  have h2 : Room 2 (A.deeper (envOfC "law" (defScope s_law) s.heap.objs.size (He.ga K "law") cdv)) := hr.mono (by decide)
  have h1 : Room 1 (A.deeper (envOfC "law" (defScope s_law) s.heap.objs.size (He.ga K "law") cdv)) := hr.mono (by decide)
  refine ⟨_, (pss_cons (ps_set (i := 15) sc_law.nd rfl (by walk_at "lv") (pe_op op_add pe_int (pe_k S.draw h2 (by rfl) pass0 (pa_cons (pv 1) (pa_cons pe_int pa_nil)))))
        (pss_cons (ps_set (i := 16) sc_law.nd rfl (by walk_at "lv") (pe_op op_rep (pe_lst (pa_cons pe_bl pa_nil)) (pv 15)))
        (pss_cons (ps_for PassesOwn.never rfl (pi_range2 (by rfl) S.n.range (pa_cons (pe_op op_sub (pv 4) (pe_op op_mul (pv 7) (pv 15))) (pa_cons (pe_op op_add (pe_op op_add (pv 5) (pe_op op_mul (pv 7) (pv 15))) pe_int) pa_nil))) (pg_name (i := 17) sc_law.nd rfl (by walk_at "lv")) (pss_one (ps_if (pt_val (pe_k S.has h1 (by rfl) pass0 (pa_cons (pv 3) (pa_cons (pv 17) pa_nil)))) (pss_one (ps_asg pe_bl (pg_sub (pv 16) (pe_op op_mod (pe_callTy call_int1 (by rfl) S.n.int boot_int (pa_cons (pv 17) pa_nil)) (pv 15)) set_list))) pss_nil)))
        (pss_cons (ps_if (pt_not (pt_val (pe_k S.is h4 (by rfl) pass0 (pa_cons (pe_k S.ask hr (by rfl) pass0 (pa_cons pe_int (pa_cons (pv 10) (pa_cons (pv 15) pa_nil)))) (pa_cons (pe_lst (pa_cons pe_int (pa_cons (pe_op op_sub (pv 15) pe_int) (pa_cons (pv 16) (pa_cons pe_int (pa_cons (pe_lst (pa_cons pe_bl pa_nil)) (pa_cons (pe_lst (pa_cons pe_bl pa_nil)) pa_nil))))))) pa_nil))))) (pss_one (ps_ret pe_bl)) pss_nil)
        (pss_one (ps_if (pt_cmpR (op_neD hr.units) (pe_k S.seen h1 (by rfl) pass0 (pa_cons (pv 10) pa_nil)) (pv 11) (nomark _)) (pss_one (ps_ret pe_bl)) pss_nil)))))), ?_⟩
  intro H1 a p c t c' u d q l T lo hi m y2 y12 y13 y14 y15 y16 y17 y18 y19 y20 y21 y22 y23 B x
  have z1 : (1 : Nat) ≤ sizeLine := by decide
  have z6 : (6 : Nat) ≤ sizeLine := by decide
  have hh : T.hi = T.lo + T.cs.length - 1 := rfl
  have cm := x.dr.c
  have um := x.dr.m
  have blo := x.dr.lo
  have bhi := x.dr.hi
  refine ⟨_, rfl, p, c, 60, rfl, x.h, ⟨by decide, by decide⟩, fun r H2 r0 r1 h2' b2 => ⟨_, _, rfl, rfl, ?_⟩⟩
  have x := x.but h2' b2
  obtain ⟨n, hn⟩ := Int.eq_ofNat_of_zero_le (show 0 ≤ 1 + r by omega)
  dsimp only
  rw [hn]
  have n0 : 0 < n := by omega
  have n60 : n ≤ 60 := by omega
  refine ⟨z1, fun lb hlb => ⟨_, rfl, lb, _, _, rfl, rfl, upd_same, by omega, by omega, ?_, fun R hR => ?_⟩⟩
  · show 1 * _ ≤ _
    rw [Nat.one_mul]
    exact Nat.le_of_lt (small1000 (by omega))
  have sl := same_new (o := .lst [V.bl false]) (Same.refl H2) hlb
  have sR := same_new (o := .lst (List.replicate ((n : Int)).toNat [V.bl false]).flatten) sl hR
  have eR : (upd (upd H2 lb (.lst [V.bl false])) R (.lst (List.replicate ((n : Int)).toNat [V.bl false]).flatten)) R = some (.lst ((List.replicate n false).map V.bl)) := by
    rw [rep_flat, List.map_replicate, Int.toNat_natCast]
    exact upd_same
  have hRH : H2 R = none := sl.free hR
  generalize upd (upd H2 lb (.lst [V.bl false])) R (.lst (List.replicate ((n : Int)).toNat [V.bl false]).flatten) = H3 at sR eR ⊢
  have x3 := x.same sR
  have mb : T.us.length * n ≤ 12 * 60 := Nat.mul_le_mul um n60
  have me : (T.us.length : Int) * (n : Int) = ((T.us.length * n : Nat) : Int) := by push_cast; rfl
  have npos : (0 : Int) < (n : Int) := by omega
  refine ⟨_, rfl, _, rfl, _, rfl, _, _, rfl, rfl, ?_, _, _, rfl, rfl, _, rfl, _, rfl, _, rfl, _, _, rfl, rfl, ?_, _, _, rfl, rfl, _, _, rfl, rfl, _, _, rfl, ⟨by rw [me]; omega, by rw [me]; omega, by rw [me]; omega, by rw [me]; omega⟩, ?_⟩
  · exact .inl ⟨by omega, by omega⟩
  · exact .inl ⟨by omega, by omega⟩
  refine for_range (fun i σ H4 => ∃ (y17 : Option V) (bs : List Bool), σ = [some (V.ref a), some (V.ref p), y2, some (V.ref t), some (V.int T.lo), some (V.int T.hi), some (V.ref c'), some (V.int T.us.length), some (V.ref u), some (V.ref d), some (V.ref l), some (V.ref q), y12, y13, y14, some (V.int n), some (V.ref R), y17, y18, y19, y20, y21, y22, y23] ∧ Same H2 H4 ∧ H4 R = some (.lst (bs.map V.bl)) ∧ bs.length = n ∧ ∀ k : Nat, k < n → (bs.getD k false = true ↔ ∃ j : Nat, j < i ∧ T.has (T.lo - (T.us.length : Int) * n + (j : Int)) = true ∧ (T.lo - (T.us.length : Int) * n + (j : Int)) % (n : Int) = (k : Int))) ⟨_, _, rfl, sR, eR, List.length_replicate, fun k hk => ?_⟩ ?_ ?_
  · rw [List.getD_eq_getElem?_getD, List.getElem?_replicate, if_pos hk]
    exact ⟨(fun z => nomatch z), (fun ⟨j, hj, _⟩ => absurd hj (Nat.not_lt_zero j))⟩
  · rintro i σ H4 hi' ⟨y17, bs, rfl, s4, e4, hl, inv⟩
    have x4 := x.same s4
    refine ⟨_, rfl, _, rfl, t, c', u, d, T, _, rfl, x4.t, x4.dr.ok, _, rfl, ?_⟩
    have up : ∀ k : Nat, (∃ j : Nat, j < i + 1 ∧ T.has (T.lo - (T.us.length : Int) * n + (j : Int)) = true ∧ (T.lo - (T.us.length : Int) * n + (j : Int)) % (n : Int) = (k : Int)) ↔ (∃ j : Nat, j < i ∧ T.has (T.lo - (T.us.length : Int) * n + (j : Int)) = true ∧ (T.lo - (T.us.length : Int) * n + (j : Int)) % (n : Int) = (k : Int)) ∨ (T.has (T.lo - (T.us.length : Int) * n + (i : Int)) = true ∧ (T.lo - (T.us.length : Int) * n + (i : Int)) % (n : Int) = (k : Int)) := fun k => by
      constructor
      · rintro ⟨j, hj, z⟩
        by_cases q : j = i
        · subst q; exact .inr z
        · exact .inl ⟨j, by omega, z⟩
      · rintro (⟨j, hj, z⟩ | z)
        · exact ⟨j, by omega, z⟩
        · exact ⟨i, by omega, z⟩
    cases hb : T.has (T.lo - (T.us.length : Int) * n + (i : Int)) with
    | false =>
      refine iteF ⟨_, bs, rfl, s4, e4, hl, fun k hk => ?_⟩
      rw [up, hb, inv k hk]
      exact ⟨.inl, fun z => z.elim id fun w => by cases w.1⟩
    | true =>
      have k0 := Int.emod_nonneg (T.lo - (T.us.length : Int) * n + (i : Int)) (by omega : (n : Int) ≠ 0)
      have k1 := Int.emod_lt_of_pos (T.lo - (T.us.length : Int) * n + (i : Int)) npos
      have ix : ixN (bs.map V.bl).length ((T.lo - (T.us.length : Int) * n + (i : Int)) % (n : Int)) = some ((T.lo - (T.us.length : Int) * n + (i : Int)) % (n : Int)).toNat := by
        unfold ixN
        rw [if_pos k0, if_pos (by rw [List.length_map, hl]; omega)]
      refine iteT ⟨_, rfl, _, rfl, .inl ⟨_, rfl, _, rfl, _, _, rfl, rfl, npos, R, _, _, _, rfl, rfl, e4, ix, ?_⟩⟩
      refine ⟨_, bs.set ((T.lo - (T.us.length : Int) * n + (i : Int)) % (n : Int)).toNat true, rfl, ?_, by rw [List.map_set]; exact upd_same, by rw [List.length_set]; exact hl, fun k hk => ?_⟩
      · intro b o z
        rw [upd_ne (ne_of_none z hRH)]
        exact s4 b o z
      · rw [up, hb, ← inv k hk, List.getD_eq_getElem?_getD, List.getElem?_set, List.getD_eq_getElem?_getD]
        by_cases q : ((T.lo - (T.us.length : Int) * n + (i : Int)) % (n : Int)).toNat = k
        · rw [if_pos q, if_pos (by omega)]
          exact ⟨fun _ => .inr ⟨rfl, by omega⟩, fun _ => rfl⟩
        · rw [if_neg q]
          exact ⟨.inl, fun z => z.elim id fun w => absurd w.2 (by omega)⟩
  · rintro σ H4 ⟨y17, bs, rfl, s4, e4, hl, inv⟩
    have x4 := x.same s4
    have rest : ∀ x : Int, (Tl.mk 0 bs [false] [false]).has x = true ↔ (0 ≤ x ∧ x < (n : Int)) ∧ RestS (insOf T lo hi) m (resOf T.U m) (resOf T.D m) n x := fun y => by
      rw [bits_has, Bool.and_eq_true, decide_eq_true_iff, hl]
      refine ⟨fun ⟨h1, h2⟩ => ⟨h1, ?_⟩, fun ⟨h1, h2⟩ => ⟨h1, ?_⟩⟩
      · rw [rests_eq x.dr.ok x.f n0 h1.1 h1.2]
        obtain ⟨j, hj, g1, g2⟩ := (inv y.toNat (by omega)).mp h2
        exact ⟨_, by omega, by omega, g1, by omega⟩
      · rw [rests_eq x.dr.ok x.f n0 h1.1 h1.2] at h2
        obtain ⟨z, g1, g2, g3, g4⟩ := h2
        refine (inv y.toNat (by omega)).mpr ⟨(z - (T.lo - (T.us.length : Int) * n)).toNat, by omega, ?_, ?_⟩
        · rw [show T.lo - (T.us.length : Int) * n + ((z - (T.lo - (T.us.length : Int) * n)).toNat : Int) = z by omega]
          exact g3
        · rw [show T.lo - (T.us.length : Int) * n + ((z - (T.lo - (T.us.length : Int) * n)).toNat : Int) = z by omega]
          omega
    have ir : InR ⟨0, bs, [false], [false]⟩ := inr_fin (A := 0) (B := 59) (by decide) (by decide) (fun y hy => by have := ((rest y).mp hy).1; omega) (fun y => one_U y) (fun y => one_D y)
    refine ⟨_, rfl, _, rfl, l, lo, hi, m, _, _, _, x4.l, lotD_of x4.dr x4.f x4.b1 x4.b2, .inr (.inr ⟨n, ⟨0, bs, [false], [false]⟩, rfl, ⟨n0, n60⟩, rest, (fun y => one_U y), (fun y => one_D y), rfl, rfl, lotEnd_of ir fun v H5 s5 Rv => ?_⟩)⟩
    refine ⟨_, rfl, _, _, rfl, rfl, _, rfl, z1, fun u3 hu3 => ⟨z1, fun d3 hd3 => ⟨z6, fun t3 ht3 => ?_⟩⟩⟩
    obtain ⟨ta, s6⟩ := tell_lit (T := ⟨0, bs, [false], [false]⟩) (xs := [.int 0, .int ((n : Int) - 1), .ref R, .int 1, .ref u3, .ref d3]) (s5 _ _ e4) hu3 hd3 ht3 (by
      show _ = [V.int 0, V.int (0 + (bs.length : Int) - 1), V.ref R, V.int 1, V.ref u3, V.ref d3]
      rw [hl, show 0 + (n : Int) - 1 = (n : Int) - 1 by omega])
    dsimp only [tNil, List.append_nil]
    refine is_of ta (one_near (by omega) (by decide)) (by decide : 1 ≤ 100) (by show bs.length ≤ 100; omega) (Rv.same s6) fun H6 s7 => ⟨_, rfl, iteF ?_⟩
    have x6 := x4.same (s5.trans (s6.trans s7))
    refine ⟨_, rfl, l, lo, hi, m, _, _, _, rfl, x6.l, fun q2 H7 s8 f2 => ?_⟩
    have x7 := x6.same s8
    refine ⟨_, rfl, _, _, f2.dp, x7.q.dp, (formD_lay _ _ _ _ _ _).2, (formD_lay _ _ _ _ _ _).2, _, rfl, ?_⟩
    rw [PySem.SeqAt.eqv_refl (formD lo hi (insOf T lo hi) m (resOf T.U m) (resOf T.D m)) (formD_lay _ _ _ _ _ _).1]
    refine iteF ?_
    exact ⟨_, _, _, _, _, _, _, _, _, _, _, _, _, _, _, _, _, _, _, _, _, _, rfl, x7.h⟩
end
end My
set_option Elab.async false
set_option linter.all false
set_option maxRecDepth 100000
set_option maxHeartbeats 8000000
namespace My
open PySem PySem.Spec PyProof.Rows L2
local macro_rules | `(tactic| walk_at "lv") => `(tactic| first | exact Or.inl rfl | exact Or.inr rfl)
def rLen (K : PySem.W.Frag) : List V → Hp → VK → Prop := fun xs H Q => ∃ p ys, xs = [V.ref p] ∧ (SqL K H p ys ∨ SqT K H p ys) ∧ Q (V.int ((ys.length : Nat) : Int)) H
section
variable {P : Program} {w : World} {K : PySem.W.Frag} {mg : Str → Option Value} {base : Heap}
theorem body_X2 (S : LawSrc P w K mg base) {cdv : Value} {A : Around} {outer : List Env} {s : Shared} {H : Hp} {E : XK} {Q : VK} (hr : Room 6 (A.deeper (envOfC "law" (defScope s_law) s.heap.objs.size (He.ga K "law") cdv))) :
    ∃ tl, PSs (cxL P w K mg base cdv A outer s H E) ((forBody s_law 1).drop 9) tl ∧ ∀ (H1 : Hp) (a p c t c' u d q l : Addr) (T : Tl) (lo hi : Int) (m : Nat) (y2 y12 y13 y14 y15 y16 y17 y18 y19 y20 y21 y22 y23 : Option V) (B : L2.St → Hp → Prop), Turn K H1 p c t c' u d q l T lo hi m →
      tl { nx := PvL a p c, rt := Q, bk := B, ct := PvL a p c } [some (V.ref a), some (V.ref p), y2, some (V.ref t), some (V.int T.lo), some (V.int T.hi), some (V.ref c'), some (V.int T.us.length), some (V.ref u), some (V.ref d), some (V.ref l), some (V.ref q), y12, y13, y14, y15, y16, y17, y18, y19, y20, y21, y22, y23] H1 := by
  have h4 : Room 4 (A.deeper (envOfC "law" (defScope s_law) s.heap.objs.size (He.ga K "law") cdv)) := hr.mono (by decide)
  obtain ⟨tn, dtn, nxt⟩ := body_X3 S (outer := outer) (H := H) (E := E) (Q := Q) hr
  refine ⟨_, (pss_cons (ps_set (i := 14) sc_law.nd rfl (by walk_at "lv") (pe_lst (pa_cons (pe_un un_neg (pv 5)) (pa_cons (pe_un un_neg (pv 4)) (pa_cons (pe_lc (own := [("_law_k", 22)]) (g := gName 22) (tt := tYes) rfl sc_law.nd (pi_range1 (by rfl) S.n.range (pa_cons (pe_callB (id := "len") (r := rLen K) call_len_seq (by rfl) S.n.len (by decide +kernel) (pa_cons (pv 6) pa_nil)) pa_nil)) (blkOk_by (N := N_law) (sc := defScope s_law) (by decide +kernel)) (fun _ _ _ _ _ => (pg_name (i := 22) sc_law.nd rfl (by walk_at "lv"))) (fun _ _ _ _ _ => pts_nil) (fun _ _ _ _ _ => (pe_ix (r := rIxL K) ix_list (pv 6) (pe_op op_sub (pe_op op_sub (pe_callB (id := "len") (r := rLen K) call_len_seq (by rfl) S.n.len (by decide +kernel) (pa_cons (pv 6) pa_nil)) pe_int) (pv 22)) (fun _ _ => rfl)))) (pa_cons (pv 7) (pa_cons (pe_lc (own := [("_law_k", 22)]) (g := gName 22) (tt := tYes) rfl sc_law.nd (pi_range1 (by rfl) S.n.range (pa_cons (pv 7) pa_nil)) (blkOk_by (N := N_law) (sc := defScope s_law) (by decide +kernel)) (fun _ _ _ _ _ => (pg_name (i := 22) sc_law.nd rfl (by walk_at "lv"))) (fun _ _ _ _ _ => pts_nil) (fun _ _ _ _ _ => (pe_ix (r := rIxL K) ix_list (pv 9) (pe_op op_mod (pe_callTy call_int1 (by rfl) S.n.int boot_int (pa_cons (pe_un un_neg (pv 22)) pa_nil)) (pv 7)) (fun _ _ => rfl)))) (pa_cons (pe_lc (own := [("_law_k", 22)]) (g := gName 22) (tt := tYes) rfl sc_law.nd (pi_range1 (by rfl) S.n.range (pa_cons (pv 7) pa_nil)) (blkOk_by (N := N_law) (sc := defScope s_law) (by decide +kernel)) (fun _ _ _ _ _ => (pg_name (i := 22) sc_law.nd rfl (by walk_at "lv"))) (fun _ _ _ _ _ => pts_nil) (fun _ _ _ _ _ => (pe_ix (r := rIxL K) ix_list (pv 8) (pe_op op_mod (pe_callTy call_int1 (by rfl) S.n.int boot_int (pa_cons (pe_un un_neg (pv 22)) pa_nil)) (pv 7)) (fun _ _ => rfl)))) pa_nil))))))))
        (pss_cons (ps_if (pt_not (pt_val (pe_k S.is h4 (by rfl) pass0 (pa_cons (pe_k S.ask hr (by rfl) pass0 (pa_cons pe_int (pa_cons (pv 10) (pa_cons pe_int pa_nil)))) (pa_cons (pv 14) pa_nil))))) (pss_one (ps_ret pe_bl)) pss_nil) dtn)), ?_⟩
  intro H1 a p c t c' u d q l T lo hi m y2 y12 y13 y14 y15 y16 y17 y18 y19 y20 y21 y22 y23 B x
  have um := x.dr.m
  have cm := x.dr.c
  have ok := x.dr.ok
  have mp := ok.pos
  have npos : (0 : Int) < (T.us.length : Int) := by omega
  refine ⟨_, rfl, _, rfl, _, rfl, _, rfl, _, rfl, c', _, rfl, .inl (SqL.of x.t.l.cs), _, rfl, by omega, by rw [List.length_map]; omega, fun D0 hD0 => ?_⟩
  rw [show (((T.cs.map V.bl).length : Nat) : Int).toNat = T.cs.length by rw [List.length_map]; omega]
  refine lc_itF (G := fun _ => True) walk_range hD0 (fun i => ((List.range i).map fun (k : Nat) => T.cs.getD (T.cs.length - 1 - k) false).map V.bl) rfl (fun i hi' => small1000 (by rw [List.length_map, List.length_map, List.length_range]; omega)) (fun _ _ => trivial) ?_ ?_ ?_ ?_ ?_
  · rintro i y H5 H3 hi' e s4 ⟨rfl, rfl⟩
    refine ⟨rfl, _, rfl, _, rfl, c', _, rfl, .inl (SqL.of (s4 _ _ x.t.l.cs)), _, _, rfl, rfl, _, rfl, _, _, rfl, rfl, c', _, _, _, rfl, rfl, SqL.of (s4 _ _ x.t.l.cs), blI_get (by rw [List.length_map]; omega) (by rw [List.length_map]; omega), e, s4, ?_⟩
    rw [List.range_succ, List.map_append, List.map_append, List.length_map, show ((T.cs.length : Int) - 1 - (0 + (i : Int))).toNat = T.cs.length - 1 - i by omega]
    rfl
  · exact fun x H' Q Q' h q => h _ _ q
  · exact fun σ2 H2 Q1 Q2 h q => h _ _ q
  · rintro σ2 H4 Q1 Q2 h ⟨x1, h1, x2, h2, p1, ys, f1, f2, i, j, f3, f4, x3, h3, i2, j2, f5, f6, p', xs, ii, v, e7, e8, e9, e10, q⟩
    exact ⟨x1, h1, x2, h2, p1, ys, f1, f2, i, j, f3, f4, x3, h3, i2, j2, f5, f6, p', xs, ii, v, e7, e8, e9, e10, h _ _ q⟩
  intro H2 e0 s0
  have x0 := x.same s0
  refine ⟨_, rfl, _, rfl, _, rfl, by omega, by omega, fun D1 hD1 => ?_⟩
  rw [show ((T.us.length : Int)).toNat = T.us.length by omega]
  refine lc_itF (G := fun _ => True) walk_range hD1 (fun i => ((List.range i).map fun (k : Nat) => T.D (-(k : Int))).map V.bl) rfl (fun i hi' => small1000 (by rw [List.length_map, List.length_map, List.length_range]; omega)) (fun _ _ => trivial) ?_ ?_ ?_ ?_ ?_
  · rintro i y H5 H3 hi' e s4 ⟨rfl, rfl⟩
    refine ⟨rfl, _, rfl, _, rfl, _, rfl, .inl ⟨_, rfl, _, rfl, _, _, rfl, rfl, npos, d, _, _, _, rfl, rfl, SqL.of (s4 _ _ x0.t.l.ds), cyc_get (n := -(0 + (i : Int))) ok.len mp, e, s4, ?_⟩⟩
    rw [List.range_succ, List.map_append, List.map_append, show -((0 : Int) + (i : Int)) = -(i : Int) by omega]
    rfl
  · exact fun x H' Q Q' h q => h _ _ q
  · exact fun σ2 H2 Q1 Q2 h q => h _ _ q
  · rintro σ2 H4 Q1 Q2 h ⟨x1, h1, x3, h3, i, e1, q⟩
    rcases q with ⟨i', e3, x4, h4, i2, j2, e4, e5, e6, p', xs, ii, v, e7, e8, e9, e10, q⟩ | ⟨b', e3, x4, h4, i2, j2, e4, e5, e6, p', xs, ii, v, e7, e8, e9, e10, q⟩
    · exact ⟨x1, h1, x3, h3, i, e1, .inl ⟨i', e3, x4, h4, i2, j2, e4, e5, e6, p', xs, ii, v, e7, e8, e9, e10, h _ _ q⟩⟩
    · exact ⟨x1, h1, x3, h3, i, e1, .inr ⟨b', e3, x4, h4, i2, j2, e4, e5, e6, p', xs, ii, v, e7, e8, e9, e10, h _ _ q⟩⟩
  intro H3 e1 s1
  have x1 := x0.same s1
  refine ⟨_, rfl, _, rfl, by omega, by omega, fun D2 hD2 => ?_⟩
  rw [show ((T.us.length : Int)).toNat = T.us.length by omega]
  refine lc_itF (G := fun _ => True) walk_range hD2 (fun i => ((List.range i).map fun (k : Nat) => T.U (-(k : Int))).map V.bl) rfl (fun i hi' => small1000 (by rw [List.length_map, List.length_map, List.length_range]; omega)) (fun _ _ => trivial) ?_ ?_ ?_ ?_ ?_
  · rintro i y H5 H3 hi' e s4 ⟨rfl, rfl⟩
    refine ⟨rfl, _, rfl, _, rfl, _, rfl, .inl ⟨_, rfl, _, rfl, _, _, rfl, rfl, npos, u, _, _, _, rfl, rfl, SqL.of (s4 _ _ x1.t.l.us), cyc_get (n := -(0 + (i : Int))) rfl mp, e, s4, ?_⟩⟩
    rw [List.range_succ, List.map_append, List.map_append, show -((0 : Int) + (i : Int)) = -(i : Int) by omega]
    rfl
  · exact fun x H' Q Q' h q => h _ _ q
  · exact fun σ2 H2 Q1 Q2 h q => h _ _ q
  · rintro σ2 H4 Q1 Q2 h ⟨x1, h1, x3, h3, i, e1, q⟩
    rcases q with ⟨i', e3, x4, h4, i2, j2, e4, e5, e6, p', xs, ii, v, e7, e8, e9, e10, q⟩ | ⟨b', e3, x4, h4, i2, j2, e4, e5, e6, p', xs, ii, v, e7, e8, e9, e10, q⟩
    · exact ⟨x1, h1, x3, h3, i, e1, .inl ⟨i', e3, x4, h4, i2, j2, e4, e5, e6, p', xs, ii, v, e7, e8, e9, e10, h _ _ q⟩⟩
    · exact ⟨x1, h1, x3, h3, i, e1, .inr ⟨b', e3, x4, h4, i2, j2, e4, e5, e6, p', xs, ii, v, e7, e8, e9, e10, h _ _ q⟩⟩
  intro H4 e2 s2
  have x3 := x1.same s2
  refine ⟨(by decide : 6 ≤ sizeLine), fun t3 ht3 => ?_⟩
  have s5 := same_new (o := .lst [V.int (-T.hi), V.int (-T.lo), V.ref D0, V.int T.us.length, V.ref D1, V.ref D2]) (Same.refl H4) ht3
  have ta : TellAt (upd H4 t3 (.lst [V.int (-T.hi), V.int (-T.lo), V.ref D0, V.int T.us.length, V.ref D1, V.ref D2])) t3 T.tn D0 D1 D2 := by
    refine ⟨?_, ⟨s5 _ _ (s2 _ _ (s1 _ _ e0)), s5 _ _ (s2 _ _ e1), s5 _ _ e2⟩⟩
    rw [upd_same]
    show some (HO.lst _) = some (HO.lst [V.int (-T.hi), V.int (-T.hi + (((List.range T.cs.length).map fun (k : Nat) => T.cs.getD (T.cs.length - 1 - k) false).length : Int) - 1), V.ref D0, V.int (((List.range T.us.length).map fun (k : Nat) => T.D (-(k : Int))).length : Nat), V.ref D1, V.ref D2])
    rw [List.length_map, List.length_range, List.length_map, List.length_range, show -T.hi + (T.cs.length : Int) - 1 = -T.lo by show -(T.lo + T.cs.length - 1) + (T.cs.length : Int) - 1 = -T.lo; omega]
  have x4 := x3.same s5
  generalize upd H4 t3 (.lst [V.int (-T.hi), V.int (-T.lo), V.ref D0, V.int T.us.length, V.ref D1, V.ref D2]) = H6 at ta x4 ⊢
  have eqs := turned_eq ok x.f
  refine ⟨_, rfl, l, lo, hi, m, _, _, _, x4.l, lotD_of x4.dr x4.f x4.b1 x4.b2, .inr (.inl ⟨rfl, askEnd_of fun v H5 s6 Rv => ?_⟩)⟩
  refine ⟨_, rfl, ?_⟩
  dsimp only [tNil, List.append_nil]
  have blo := x.dr.lo
  have bhi := x.dr.hi
  have tm : T.tn.us.length = T.us.length := by show ((List.range T.us.length).map fun (k : Nat) => T.D (-(k : Int))).length = _; rw [List.length_map, List.length_range]
  have tc : T.tn.cs.length = T.cs.length := by show ((List.range T.cs.length).map fun (k : Nat) => T.cs.getD (T.cs.length - 1 - k) false).length = _; rw [List.length_map, List.length_range]
  have tok : T.tn.Ok := ⟨by show ((List.range T.us.length).map fun (k : Nat) => T.U (-(k : Int))).length = _; rw [List.length_map, List.length_range, tm], by rw [tm]; exact mp⟩
  refine is_of (ta.same s6) ⟨tok, by rw [tm]; omega, by rw [tc]; omega, by show -10 ^ 31 ≤ -T.hi ∧ -T.hi ≤ 10 ^ 31; have hh : T.hi = T.lo + T.cs.length - 1 := rfl; omega⟩ (by rw [tm]; omega) (by rw [tc]; omega) (Rv.cong eqs.1 eqs.2.1 eqs.2.2) fun H7 s7 => ⟨_, rfl, iteF ?_⟩
  exact nxt H7 a p c t c' u d q l T lo hi m _ _ _ _ _ _ _ _ _ _ _ _ _ B (x4.same (s6.trans s7))
theorem body_X1 (S : LawSrc P w K mg base) {cdv : Value} {A : Around} {outer : List Env} {s : Shared} {H : Hp} {E : XK} {Q : VK} (hr : Room 6 (A.deeper (envOfC "law" (defScope s_law) s.heap.objs.size (He.ga K "law") cdv))) :
    ∃ tl, PSs (cxL P w K mg base cdv A outer s H E) ((forBody s_law 1).drop 7) tl ∧ ∀ (H1 : Hp) (a p c t c' u d q l : Addr) (T : Tl) (lo hi : Int) (m : Nat) (b : Int) (y2 y13 y14 y15 y16 y17 y18 y19 y20 y21 y22 y23 : Option V) (B : L2.St → Hp → Prop), (-(9 * 10 ^ 30) ≤ b ∧ b ≤ 9 * 10 ^ 30) → Turn K H1 p c t c' u d q l T lo hi m →
      tl { nx := PvL a p c, rt := Q, bk := B, ct := PvL a p c } [some (V.ref a), some (V.ref p), y2, some (V.ref t), some (V.int T.lo), some (V.int T.hi), some (V.ref c'), some (V.int T.us.length), some (V.ref u), some (V.ref d), some (V.ref l), some (V.ref q), some (V.int b), y13, y14, y15, y16, y17, y18, y19, y20, y21, y22, y23] H1 := by
  have h4 : Room 4 (A.deeper (envOfC "law" (defScope s_law) s.heap.objs.size (He.ga K "law") cdv)) := hr.mono (by decide)
  obtain ⟨tn, dtn, nxt⟩ := body_X2 S (outer := outer) (H := H) (E := E) (Q := Q) hr
  refine ⟨_, (pss_cons (ps_set (i := 13) sc_law.nd rfl (by walk_at "lv") (pe_lst (pa_cons (pe_op op_add (pv 4) (pv 12)) (pa_cons (pe_op op_add (pv 5) (pv 12)) (pa_cons (pv 6) (pa_cons (pv 7) (pa_cons (pe_lc (own := [("_law_k", 22)]) (g := gName 22) (tt := tYes) rfl sc_law.nd (pi_range1 (by rfl) S.n.range (pa_cons (pv 7) pa_nil)) (blkOk_by (N := N_law) (sc := defScope s_law) (by decide +kernel)) (fun _ _ _ _ _ => (pg_name (i := 22) sc_law.nd rfl (by walk_at "lv"))) (fun _ _ _ _ _ => pts_nil) (fun _ _ _ _ _ => (pe_ix (r := rIxL K) ix_list (pv 8) (pe_op op_mod (pe_callTy call_int1 (by rfl) S.n.int boot_int (pa_cons (pe_op op_sub (pv 22) (pv 12)) pa_nil)) (pv 7)) (fun _ _ => rfl)))) (pa_cons (pe_lc (own := [("_law_k", 22)]) (g := gName 22) (tt := tYes) rfl sc_law.nd (pi_range1 (by rfl) S.n.range (pa_cons (pv 7) pa_nil)) (blkOk_by (N := N_law) (sc := defScope s_law) (by decide +kernel)) (fun _ _ _ _ _ => (pg_name (i := 22) sc_law.nd rfl (by walk_at "lv"))) (fun _ _ _ _ _ => pts_nil) (fun _ _ _ _ _ => (pe_ix (r := rIxL K) ix_list (pv 9) (pe_op op_mod (pe_callTy call_int1 (by rfl) S.n.int boot_int (pa_cons (pe_op op_sub (pv 22) (pv 12)) pa_nil)) (pv 7)) (fun _ _ => rfl)))) pa_nil))))))))
        (pss_cons (ps_if (pt_not (pt_val (pe_k S.is h4 (by rfl) pass0 (pa_cons (pe_k S.ask hr (by rfl) pass0 (pa_cons pe_int (pa_cons (pv 10) (pa_cons (pv 12) pa_nil)))) (pa_cons (pv 13) pa_nil))))) (pss_one (ps_ret pe_bl)) pss_nil) dtn)), ?_⟩
  intro H1 a p c t c' u d q l T lo hi m b y2 y13 y14 y15 y16 y17 y18 y19 y20 y21 y22 y23 B bb x
  have um := x.dr.m
  have ok := x.dr.ok
  have mp := ok.pos
  have npos : (0 : Int) < (T.us.length : Int) := by omega
  refine ⟨_, rfl, _, rfl, _, _, rfl, rfl, _, rfl, _, rfl, _, _, rfl, rfl, _, rfl, _, rfl, _, rfl, _, rfl, by omega, by omega, fun D1 hD1 => ?_⟩
  rw [show ((T.us.length : Int)).toNat = T.us.length by omega]
  refine lc_itF (G := fun _ => True) walk_range hD1 (fun i => ((List.range i).map fun (k : Nat) => T.U ((k : Int) - b)).map V.bl) rfl (fun i hi' => small1000 (by rw [List.length_map, List.length_map, List.length_range]; omega)) (fun _ _ => trivial) ?_ ?_ ?_ ?_ ?_
  · rintro i y H2 H3 hi' e s4 ⟨rfl, rfl⟩
    refine ⟨rfl, _, rfl, _, rfl, _, rfl, _, _, rfl, rfl, .inl ⟨_, rfl, _, rfl, _, _, rfl, rfl, npos, u, _, _, _, rfl, rfl, SqL.of (s4 _ _ x.t.l.us), cyc_get (n := 0 + (i : Int) - b) rfl mp, e, s4, ?_⟩⟩
    rw [List.range_succ, List.map_append, List.map_append, show (0 : Int) + (i : Int) - b = (i : Int) - b by omega]
    rfl
  · exact fun x H' Q Q' h q => h _ _ q
  · exact fun σ2 H2 Q1 Q2 h q => h _ _ q
  · rintro σ2 H4 Q1 Q2 h ⟨x1, h1, x2, h2, x3, h3, i, j, e1, e2, q⟩
    rcases q with ⟨i', e3, x4, h4, i2, j2, e4, e5, e6, p', xs, ii, v, e7, e8, e9, e10, q⟩ | ⟨b', e3, x4, h4, i2, j2, e4, e5, e6, p', xs, ii, v, e7, e8, e9, e10, q⟩
    · exact ⟨x1, h1, x2, h2, x3, h3, i, j, e1, e2, .inl ⟨i', e3, x4, h4, i2, j2, e4, e5, e6, p', xs, ii, v, e7, e8, e9, e10, h _ _ q⟩⟩
    · exact ⟨x1, h1, x2, h2, x3, h3, i, j, e1, e2, .inr ⟨b', e3, x4, h4, i2, j2, e4, e5, e6, p', xs, ii, v, e7, e8, e9, e10, h _ _ q⟩⟩
  intro H2 e1 s2
  have x2 := x.same s2
  refine ⟨_, rfl, _, rfl, by omega, by omega, fun D2 hD2 => ?_⟩
  rw [show ((T.us.length : Int)).toNat = T.us.length by omega]
  refine lc_itF (G := fun _ => True) walk_range hD2 (fun i => ((List.range i).map fun (k : Nat) => T.D ((k : Int) - b)).map V.bl) rfl (fun i hi' => small1000 (by rw [List.length_map, List.length_map, List.length_range]; omega)) (fun _ _ => trivial) ?_ ?_ ?_ ?_ ?_
  · rintro i y H4 H3 hi' e s4 ⟨rfl, rfl⟩
    refine ⟨rfl, _, rfl, _, rfl, _, rfl, _, _, rfl, rfl, .inl ⟨_, rfl, _, rfl, _, _, rfl, rfl, npos, d, _, _, _, rfl, rfl, SqL.of (s4 _ _ x2.t.l.ds), cyc_get (n := 0 + (i : Int) - b) ok.len mp, e, s4, ?_⟩⟩
    rw [List.range_succ, List.map_append, List.map_append, show (0 : Int) + (i : Int) - b = (i : Int) - b by omega]
    rfl
  · exact fun x H' Q Q' h q => h _ _ q
  · exact fun σ2 H2 Q1 Q2 h q => h _ _ q
  · rintro σ2 H4 Q1 Q2 h ⟨x1, h1, x2, h2, x3, h3, i, j, e1, e2, q⟩
    rcases q with ⟨i', e3, x4, h4, i2, j2, e4, e5, e6, p', xs, ii, v, e7, e8, e9, e10, q⟩ | ⟨b', e3, x4, h4, i2, j2, e4, e5, e6, p', xs, ii, v, e7, e8, e9, e10, q⟩
    · exact ⟨x1, h1, x2, h2, x3, h3, i, j, e1, e2, .inl ⟨i', e3, x4, h4, i2, j2, e4, e5, e6, p', xs, ii, v, e7, e8, e9, e10, h _ _ q⟩⟩
    · exact ⟨x1, h1, x2, h2, x3, h3, i, j, e1, e2, .inr ⟨b', e3, x4, h4, i2, j2, e4, e5, e6, p', xs, ii, v, e7, e8, e9, e10, h _ _ q⟩⟩
  intro H3 e2 s3
  have x3 := x2.same s3
  refine ⟨(by decide : 6 ≤ sizeLine), fun t3 ht3 => ?_⟩
  have s5 := same_new (o := .lst [V.int (T.lo + b), V.int (T.hi + b), V.ref c', V.int T.us.length, V.ref D1, V.ref D2]) (Same.refl H3) ht3
  have ta : TellAt (upd H3 t3 (.lst [V.int (T.lo + b), V.int (T.hi + b), V.ref c', V.int T.us.length, V.ref D1, V.ref D2])) t3 (T.mv b) c' D1 D2 := by
    refine ⟨?_, ⟨s5 _ _ x3.t.l.cs, s5 _ _ (s3 _ _ e1), s5 _ _ e2⟩⟩
    rw [upd_same]
    show some (HO.lst _) = some (HO.lst [V.int (T.lo + b), V.int (T.lo + b + (T.cs.length : Int) - 1), V.ref c', V.int (((List.range T.us.length).map fun (k : Nat) => T.U ((k : Int) - b)).length : Nat), V.ref D1, V.ref D2])
    rw [List.length_map, List.length_range, show T.lo + b + (T.cs.length : Int) - 1 = T.hi + b by show _ = T.lo + T.cs.length - 1 + b; omega]
  have x4 := x3.same s5
  generalize upd H3 t3 (.lst [V.int (T.lo + b), V.int (T.hi + b), V.ref c', V.int T.us.length, V.ref D1, V.ref D2]) = H4 at ta x4 ⊢
  have eqs := moved_eq ok x.f b
  refine ⟨_, rfl, _, rfl, l, lo, hi, m, _, _, _, x4.l, lotD_of x4.dr x4.f x4.b1 x4.b2, .inl ⟨b, rfl, bb, askEnd_of fun v H5 s6 Rv => ?_⟩⟩
  refine ⟨_, rfl, ?_⟩
  dsimp only [tNil, List.append_nil]
  have cm := x.dr.c
  have blo := x.dr.lo
  have bhi := x.dr.hi
  have mvm : (T.mv b).us.length = T.us.length := by show ((List.range T.us.length).map fun (k : Nat) => T.U ((k : Int) - b)).length = _; rw [List.length_map, List.length_range]
  have mvok : (T.mv b).Ok := ⟨by show ((List.range T.us.length).map fun (k : Nat) => T.D ((k : Int) - b)).length = _; rw [List.length_map, List.length_range, mvm], by rw [mvm]; exact mp⟩
  refine is_of (ta.same s6) ⟨mvok, by rw [mvm]; omega, by show T.cs.length ≤ 1000; omega, by show -10 ^ 31 ≤ T.lo + b ∧ T.lo + b ≤ 10 ^ 31; have hh : T.hi = T.lo + T.cs.length - 1 := rfl; omega⟩ (by rw [mvm]; omega) (by show T.cs.length ≤ 100; omega) (Rv.cong eqs.1 eqs.2.1 eqs.2.2) fun H6 s7 => ⟨_, rfl, iteF ?_⟩
  exact nxt H6 a p c t c' u d q l T lo hi m _ _ _ _ _ _ _ _ _ _ _ _ _ B (x4.same (s6.trans s7))
end
end My
set_option Elab.async false
set_option linter.all false
set_option maxRecDepth 100000
set_option maxHeartbeats 8000000
namespace My
open PySem PySem.Spec PyProof.Rows L2
local macro_rules | `(tactic| walk_at "lv") => `(tactic| first | exact Or.inl rfl | exact Or.inr rfl)
section
variable {P : Program} {w : World} {K : PySem.W.Frag} {mg : Str → Option Value} {base : Heap}
theorem body_X6 (S : LawSrc P w K mg base) {cdv : Value} {A : Around} {outer : List Env} {s : Shared} {H : Hp} {E : XK} {Q : VK} (hr : Room 6 (A.deeper (envOfC "law" (defScope s_law) s.heap.objs.size (He.ga K "law") cdv))) :
    ∃ tl, PSs (cxL P w K mg base cdv A outer s H E) ((forBody s_law 1).drop 6) tl ∧ ∀ (H1 : Hp) (a p c t c' u d q l : Addr) (T : Tl) (lo hi : Int) (m : Nat) (b : Int) (y2 y13 y14 y15 y16 y17 y18 y19 y20 y21 y22 y23 : Option V) (B : L2.St → Hp → Prop), (-45000 ≤ b ∧ b ≤ 45000) ∧ Turn K H1 p c t c' u d q l T lo hi m →
      tl { nx := PvL a p c, rt := Q, bk := B, ct := PvL a p c } [some (V.ref a), some (V.ref p), y2, some (V.ref t), some (V.int T.lo), some (V.int T.hi), some (V.ref c'), some (V.int T.us.length), some (V.ref u), some (V.ref d), some (V.ref l), some (V.ref q), some (V.int b), y13, y14, y15, y16, y17, y18, y19, y20, y21, y22, y23] H1 := by
  have h1 : Room 1 (A.deeper (envOfC "law" (defScope s_law) s.heap.objs.size (He.ga K "law") cdv)) := hr.mono (by decide)
  have h2 : Room 2 (A.deeper (envOfC "law" (defScope s_law) s.heap.objs.size (He.ga K "law") cdv)) := hr.mono (by decide)
  have h3 : Room 3 (A.deeper (envOfC "law" (defScope s_law) s.heap.objs.size (He.ga K "law") cdv)) := hr.mono (by decide)
  have h4 : Room 4 (A.deeper (envOfC "law" (defScope s_law) s.heap.objs.size (He.ga K "law") cdv)) := hr.mono (by decide)
  have h5 : Room 5 (A.deeper (envOfC "law" (defScope s_law) s.heap.objs.size (He.ga K "law") cdv)) := hr.mono (by decide)
  obtain ⟨tn, dtn, nxt⟩ := body_X1 S (outer := outer) (H := H) (E := E) (Q := Q) hr
  refine ⟨_, (pss_cons (ps_if (PW.pt (pw_and (pt_cmpR op_gt (pe_fld (pv 10) rfl) (pe_fld (pv 10) rfl) (nomark _)) (pw_and (pt_cmpR (op_eqD hr.units) (pv 8) (pv 9) (nomark _)) (pw_and1 (pt_not (pt_truth (pv 6) (by intro _; rfl))))))) (pss_one (ps_set (i := 12) sc_law.nd rfl (by walk_at "lv") (pe_op op_sub (pe_k S.draw h2 (by rfl) pass0 (pa_cons (pv 1) (pa_cons (pe_op op_mul pe_int (pe_op op_pow pe_int pe_int)) pa_nil))) (pe_op op_pow pe_int pe_int)))) pss_nil) dtn), ?_⟩
  intro H1 a p c t c' u d q l T lo hi m b y2 y13 y14 y15 y16 y17 y18 y19 y20 y21 y22 y23 B ⟨bb, x⟩
  obtain ⟨dx, w1, w2, w3, lp, _⟩ := id x.l
  refine ⟨_, rfl, l, _, dx, _, _, rfl, lp, S.lt.cl, S.lt.n1, lf_low, _, rfl, l, _, dx, _, _, rfl, lp, S.lt.cl, S.lt.n2, lf_high, _, _, rfl, rfl, _, rfl, ite2 (fun g1 => ?_) (fun g1 => ?_)⟩
  · refine ⟨_, rfl, _, rfl, _, _, .lst (SqL.of x.t.l.us) (dp_bls _), .lst (SqL.of x.t.l.ds) (dp_bls _), shp_lb _, shp_lb _, _, rfl, ite2 (fun g2 => ?_) (fun g2 => ?_)⟩
    · refine ⟨_, rfl, _, .inl ⟨_, SqL.of x.t.l.cs, rfl⟩, ite2 (fun g3 => ?_) (fun g3 => ?_)⟩
      · refine ⟨_, rfl, _, _, rfl, rfl, ⟨by decide, by decide, by decide⟩, _, _, rfl, rfl, .inl ⟨by decide, by decide⟩, p, c, _, rfl, x.h, ⟨by decide, by decide +kernel⟩, fun r H2 r0 r1 h2' b2 => ⟨_, _, rfl, rfl, ⟨by decide, by decide, by decide⟩, _, _, rfl, rfl, ?_⟩⟩
        have e30 : ((30 : Int)).toNat = 30 := rfl
        refine nxt H2 a p c t c' u d q l T lo hi m _ _ _ _ _ _ _ _ _ _ _ _ _  B ⟨?_, ?_⟩ (x.but h2' b2)
        · show -(9 * 10 ^ 30) ≤ r - (10 : Int) ^ 30
          omega
        · have r1' : r < 2 * (10 : Int) ^ 30 := r1
          show r - (10 : Int) ^ 30 ≤ 9 * 10 ^ 30
          omega
      · exact nxt H1 a p c t c' u d q l T lo hi m b _ _ _ _ _ _ _ _ _ _ _ _  B ⟨by omega, by omega⟩ x
    · exact nxt H1 a p c t c' u d q l T lo hi m b _ _ _ _ _ _ _ _ _ _ _ _  B ⟨by omega, by omega⟩ x
  · exact nxt H1 a p c t c' u d q l T lo hi m b _ _ _ _ _ _ _ _ _ _ _ _  B ⟨by omega, by omega⟩ x
theorem body_X5 (S : LawSrc P w K mg base) {cdv : Value} {A : Around} {outer : List Env} {s : Shared} {H : Hp} {E : XK} {Q : VK} (hr : Room 6 (A.deeper (envOfC "law" (defScope s_law) s.heap.objs.size (He.ga K "law") cdv))) :
    ∃ tl, PSs (cxL P w K mg base cdv A outer s H E) ((forBody s_law 1).drop 5) tl ∧ ∀ (H1 : Hp) (a p c t c' u d q l : Addr) (T : Tl) (lo hi : Int) (m : Nat) (y2 y12 y13 y14 y15 y16 y17 y18 y19 y20 y21 y22 y23 : Option V) (B : L2.St → Hp → Prop), Turn K H1 p c t c' u d q l T lo hi m →
      tl { nx := PvL a p c, rt := Q, bk := B, ct := PvL a p c } [some (V.ref a), some (V.ref p), y2, some (V.ref t), some (V.int T.lo), some (V.int T.hi), some (V.ref c'), some (V.int T.us.length), some (V.ref u), some (V.ref d), some (V.ref l), some (V.ref q), y12, y13, y14, y15, y16, y17, y18, y19, y20, y21, y22, y23] H1 := by
  have h1 : Room 1 (A.deeper (envOfC "law" (defScope s_law) s.heap.objs.size (He.ga K "law") cdv)) := hr.mono (by decide)
  have h2 : Room 2 (A.deeper (envOfC "law" (defScope s_law) s.heap.objs.size (He.ga K "law") cdv)) := hr.mono (by decide)
  have h3 : Room 3 (A.deeper (envOfC "law" (defScope s_law) s.heap.objs.size (He.ga K "law") cdv)) := hr.mono (by decide)
  have h4 : Room 4 (A.deeper (envOfC "law" (defScope s_law) s.heap.objs.size (He.ga K "law") cdv)) := hr.mono (by decide)
  have h5 : Room 5 (A.deeper (envOfC "law" (defScope s_law) s.heap.objs.size (He.ga K "law") cdv)) := hr.mono (by decide)
  obtain ⟨tn, dtn, nxt⟩ := body_X6 S (outer := outer) (H := H) (E := E) (Q := Q) hr
  refine ⟨_, (pss_cons (ps_set (i := 12) sc_law.nd rfl (by walk_at "lv") (pe_ix ix_tup (pe_tup (pa_cons (pe_op op_sub (pe_k S.draw h2 (by rfl) pass0 (pa_cons (pv 1) (pa_cons pe_int pa_nil))) pe_int) (pa_cons (pe_op op_sub (pe_k S.draw h2 (by rfl) pass0 (pa_cons (pv 1) (pa_cons pe_int pa_nil))) pe_int) pa_nil))) (pe_op op_fdiv (pe_k S.draw h2 (by rfl) pass0 (pa_cons (pv 1) (pa_cons pe_int pa_nil))) pe_int) (fun _ _ => rfl))) dtn), ?_⟩
  intro H1 a p c t c' u d q l T lo hi m y2 y12 y13 y14 y15 y16 y17 y18 y19 y20 y21 y22 y23 B x
  refine ⟨_, rfl, p, c, 121, rfl, x.h, ⟨by decide, by decide⟩, fun r1 H2 r10 r11 h2' b2 => ⟨_, _, rfl, rfl, _, rfl, p, c, 90001, rfl, h2', ⟨by decide, by decide +kernel⟩, fun r2 H3 r20 r21 h3' b3 => ⟨_, _, rfl, rfl, (by decide : 2 ≤ sizeLine), fun tp htp => ?_⟩⟩⟩
  have s4 := same_new (o := .tup [V.int (r1 - 60), V.int (r2 - 45000)]) (Same.refl H3) htp
  have h4' := h3'.same s4
  have np := (h3'.ne htp).1
  refine ⟨_, rfl, p, c, 4, rfl, h4', ⟨by decide, by decide⟩, fun r3 H5 r30 r31 h5' b5 => ⟨_, _, rfl, rfl, ⟨by decide, by decide⟩, ?_⟩⟩
  have x5 := (((x.but h2' b2).but h3' b3).same s4).but h5' b5
  have et : H5 tp = some (.tup [V.int (r1 - 60), V.int (r2 - 45000)]) := b5 _ _ np.symm upd_same
  have c3 : r3 / 3 = 0 ∨ r3 / 3 = 1 := by omega
  rcases c3 with c3 | c3
  · refine ⟨tp, _, _, .int (r1 - 60), rfl, rfl, SqT.of et, by rw [c3]; rfl, ?_⟩
    exact nxt H5 a p c t c' u d q l T lo hi m (r1 - 60) _ _ _ _ _ _ _ _ _ _ _ _  B ⟨⟨by omega, by omega⟩, x5⟩
  · refine ⟨tp, _, _, .int (r2 - 45000), rfl, rfl, SqT.of et, by rw [c3]; rfl, ?_⟩
    exact nxt H5 a p c t c' u d q l T lo hi m (r2 - 45000) _ _ _ _ _ _ _ _ _ _ _ _  B ⟨⟨by omega, by omega⟩, x5⟩
theorem body_X2a (S : LawSrc P w K mg base) {cdv : Value} {A : Around} {outer : List Env} {s : Shared} {H : Hp} {E : XK} {Q : VK} (hr : Room 6 (A.deeper (envOfC "law" (defScope s_law) s.heap.objs.size (He.ga K "law") cdv))) :
    ∃ tl, PSs (cxL P w K mg base cdv A outer s H E) ((forBody s_law 1).drop 2) tl ∧ ∀ (H1 : Hp) (a p c t c' u d : Addr) (T : Tl) (lo hi : Int) (m : Nat) (y2 y4 y5 y6 y7 y8 y9 y10 y11 y12 y13 y14 y15 y16 y17 y18 y19 y20 y21 y22 y23 : Option V) (B : L2.St → Hp → Prop), HandC H1 p c ∧ TellAt H1 t T c' u d ∧ Drawn T ∧ IsForm T.has T.U T.D lo hi m ∧ -20000 ≤ lo ∧ hi ≤ 20000 →
      tl { nx := PvL a p c, rt := Q, bk := B, ct := PvL a p c } [some (V.ref a), some (V.ref p), y2, some (V.ref t), y4, y5, y6, y7, y8, y9, y10, y11, y12, y13, y14, y15, y16, y17, y18, y19, y20, y21, y22, y23] H1 := by
  have h1 : Room 1 (A.deeper (envOfC "law" (defScope s_law) s.heap.objs.size (He.ga K "law") cdv)) := hr.mono (by decide)
  have h2 : Room 2 (A.deeper (envOfC "law" (defScope s_law) s.heap.objs.size (He.ga K "law") cdv)) := hr.mono (by decide)
  have h3 : Room 3 (A.deeper (envOfC "law" (defScope s_law) s.heap.objs.size (He.ga K "law") cdv)) := hr.mono (by decide)
  have h4 : Room 4 (A.deeper (envOfC "law" (defScope s_law) s.heap.objs.size (He.ga K "law") cdv)) := hr.mono (by decide)
  have h5 : Room 5 (A.deeper (envOfC "law" (defScope s_law) s.heap.objs.size (He.ga K "law") cdv)) := hr.mono (by decide)
  obtain ⟨tn, dtn, nxt⟩ := body_X5 S (outer := outer) (H := H) (E := E) (Q := Q) hr
  refine ⟨_, (pss_cons (ps_asg (pv 3) (pg_unl (by rfl) (pgs_cons (pg_name (i := 4) sc_law.nd rfl (by walk_at "lv")) (pgs_cons (pg_name (i := 5) sc_law.nd rfl (by walk_at "lv")) (pgs_cons (pg_name (i := 6) sc_law.nd rfl (by walk_at "lv")) (pgs_cons (pg_name (i := 7) sc_law.nd rfl (by walk_at "lv")) (pgs_cons (pg_name (i := 8) sc_law.nd rfl (by walk_at "lv")) (pgs_cons (pg_name (i := 9) sc_law.nd rfl (by walk_at "lv")) pgs_nil))))))))
        (pss_cons (ps_set (i := 10) sc_law.nd rfl (by walk_at "lv") (pe_k S.lo h5 (by rfl) pass0 (pa_cons (pv 3) pa_nil)))
        (pss_cons (ps_set (i := 11) sc_law.nd rfl (by walk_at "lv") (pe_k S.seen h1 (by rfl) pass0 (pa_cons (pv 10) pa_nil))) dtn))), ?_⟩
  intro H1 a p c t c' u d T lo hi m y2 y4 y5 y6 y7 y8 y9 y10 y11 y12 y13 y14 y15 y16 y17 y18 y19 y20 y21 y22 y23 B ⟨hh, ta, dr, f, b1, b2⟩
  have um := dr.m
  have cm := dr.c
  have blo := dr.lo
  have bhi := dr.hi
  have hT : T.hi = T.lo + T.cs.length - 1 := rfl
  refine ⟨_, rfl, t, _, rfl, SqL.of ta.t, rfl, _, _, rfl, _, _, rfl, _, _, rfl, _, _, rfl, _, _, rfl, _, _, rfl, rfl, ?_⟩
  refine ⟨_, rfl, t, c', u, d, T, lo, hi, m, rfl, ta, ⟨dr.ok, by omega, by omega, by omega⟩, by omega, blo, bhi, f, b1, b2, fun l H2 s2 la => ?_⟩
  refine ⟨_, rfl, l, lo, hi, m, _, _, _, rfl, la, fun q H3 s3 fq => ?_⟩
  have s23 := s2.trans s3
  exact nxt H3 a p c t c' u d q l T lo hi m _ _ _ _ _ _ _ _ _ _ _ _ _  B ⟨hh.same s23, ta.same s23, dr, f, b1, b2, fq, la.same s3⟩
theorem body_X0 (S : LawSrc P w K mg base) {cdv : Value} {A : Around} {outer : List Env} {s : Shared} {H : Hp} {E : XK} {Q : VK} (hr : Room 6 (A.deeper (envOfC "law" (defScope s_law) s.heap.objs.size (He.ga K "law") cdv))) :
    ∃ tl, PSs (cxL P w K mg base cdv A outer s H E) ((forBody s_law 1).drop 0) tl ∧ ∀ (H1 : Hp) (a p c : Addr) (y2 y3 y4 y5 y6 y7 y8 y9 y10 y11 y12 y13 y14 y15 y16 y17 y18 y19 y20 y21 y22 y23 : Option V) (B : L2.St → Hp → Prop), HandC H1 p c →
      tl { nx := PvL a p c, rt := Q, bk := B, ct := PvL a p c } [some (V.ref a), some (V.ref p), y2, y3, y4, y5, y6, y7, y8, y9, y10, y11, y12, y13, y14, y15, y16, y17, y18, y19, y20, y21, y22, y23] H1 := by
  have h1 : Room 1 (A.deeper (envOfC "law" (defScope s_law) s.heap.objs.size (He.ga K "law") cdv)) := hr.mono (by decide)
  have h2 : Room 2 (A.deeper (envOfC "law" (defScope s_law) s.heap.objs.size (He.ga K "law") cdv)) := hr.mono (by decide)
  have h3 : Room 3 (A.deeper (envOfC "law" (defScope s_law) s.heap.objs.size (He.ga K "law") cdv)) := hr.mono (by decide)
  have h4 : Room 4 (A.deeper (envOfC "law" (defScope s_law) s.heap.objs.size (He.ga K "law") cdv)) := hr.mono (by decide)
  have h5 : Room 5 (A.deeper (envOfC "law" (defScope s_law) s.heap.objs.size (He.ga K "law") cdv)) := hr.mono (by decide)
  obtain ⟨tn, dtn, nxt⟩ := body_X2a S (outer := outer) (H := H) (E := E) (Q := Q) hr
  refine ⟨_, (pss_cons (ps_set (i := 3) sc_law.nd rfl (by walk_at "lv") (pe_k S.td h3 (by rfl) pass0 (pa_cons (pv 1) (pa_cons pe_bl pa_nil))))
        (pss_cons (ps_if (pt_cmpR op_isN (pe_k S.form h2 (by rfl) pass0 (pa_cons (pv 3) pa_nil)) pe_non (nomark _)) (pss_one (ps_set (i := 3) sc_law.nd rfl (by walk_at "lv") (pe_lst (pa_cons pe_int (pa_cons (pe_un un_neg pe_int) (pa_cons (pe_lst pa_nil) (pa_cons (pe_ix ix_list (pv 3) pe_int (fun _ _ => rfl)) (pa_cons (pe_ix ix_list (pv 3) pe_int (fun _ _ => rfl)) (pa_cons (pe_ix ix_list (pv 3) pe_int (fun _ _ => rfl)) pa_nil))))))))) pss_nil) dtn)), ?_⟩
  intro H1 a p c y2 y3 y4 y5 y6 y7 y8 y9 y10 y11 y12 y13 y14 y15 y16 y17 y18 y19 y20 y21 y22 y23 B hh
  refine ⟨_, rfl, p, c, true, rfl, hh, fun t c' u d T H2 h2' b2 ta dr => ?_⟩
  have um := dr.m
  have cm := dr.c
  have blo := dr.lo
  have bhi := dr.hi
  have hT : T.hi = T.lo + T.cs.length - 1 := rfl
  refine ⟨_, rfl, t, c', u, d, T, rfl, ta, ⟨dr.ok, by omega, by omega, by omega⟩, by omega, by omega, ?_, ?_⟩
  · intro q lo hi m H3 f g1 g2 s3 fa
    refine ⟨rfl, _, rfl, ?_⟩
    rw [show decide (V.ref q = V.non) = false from decide_eq_false (fun z => nomatch z)]
    refine iteF ?_
    exact nxt H3 a p c t c' u d T lo hi m _ _ _ _ _ _ _ _ _ _ _ _ _ _ _ _ _ _ _ _ _  B ⟨h2'.same s3, ta.same s3, dr, f, g1, g2⟩
  · intro lo hi m H3 f out s3
    refine ⟨rfl, _, rfl, ?_⟩
    rw [show decide (V.non = V.non) = true from decide_eq_true rfl]
    have t3 := (ta.same s3)
    refine iteT ⟨_, rfl, Nat.zero_le _, fun c2 hc2 => ?_⟩
    have s4 := same_new (o := .lst []) (Same.refl H3) hc2
    have t4 := t3.same s4
    refine ⟨_, rfl, t, _, _, _, rfl, rfl, SqL.of t4.t, rfl, _, rfl, t, _, _, _, rfl, rfl, SqL.of t4.t, rfl, _, rfl, t, _, _, _, rfl, rfl, SqL.of t4.t, rfl, (by decide : 6 ≤ sizeLine), fun t2 ht2 => ?_⟩
    have s5 := same_new (o := .lst [V.int 0, V.int (-1), V.ref c2, V.int T.us.length, V.ref u, V.ref u]) (Same.refl _) ht2
    have ok2 : (Tl.mk 0 [] T.us T.us).Ok := ⟨rfl, dr.ok.pos⟩
    have eq : ∀ y, (Tl.mk 0 [] T.us T.us).has y = (Tl.mk 0 [] T.us T.us).U y := fun y => by
      by_cases c1 : y < 0
      · exact Tl.below c1
      · exact Tl.above (by show 0 + ((0 : Nat) : Int) - 1 < y; omega)
    obtain ⟨e, le⟩ := least_ex (U := (Tl.mk 0 [] T.us T.us).U) (D := (Tl.mk 0 [] T.us T.us).D) T.us.length dr.ok.pos ok2.pu ok2.pd
    exact nxt _ a p c t2 c2 u u ⟨0, [], T.us, T.us⟩ 0 (-1) e _ _ _ _ _ _ _ _ _ _ _ _ _ _ _ _ _ _ _ _ _  B ⟨((h2'.same s3).same s4).same s5, ⟨upd_same, ⟨s5 _ _ upd_same, s5 _ _ t4.l.us, s5 _ _ t4.l.us⟩⟩, ⟨ok2, um, Nat.zero_le _, (by show (-20000 : Int) ≤ 0; decide), (by show 0 + ((0 : Nat) : Int) - 1 ≤ 20000; decide)⟩, form_none ok2 le eq, by decide, by decide⟩
theorem kp_law {fd : FuncData} (F : FunD K "law" "law" (defArgs s_law) (defBody s_law) (defScope s_law) [] [] (He.ga K "law") fd) (S : LawSrc P w K mg base) : FnOk P w K mg base CX0 7 (He.ga K "law") fd ["_law_script"] (spLaw K) := by
  refine F.ok sc_law (fun vs H Q E h => ?_) (fun cdv A outer s H vs Q E hr h => ?_)
  · obtain ⟨a, ns, rfl, _⟩ := h
    rfl
  · obtain ⟨a, ns, rfl, hS, hlen, k⟩ := h
    have h1 : Room 1 (A.deeper (envOfC "law" (defScope s_law) s.heap.objs.size (He.ga K "law") cdv)) := hr.mono (by decide)
    obtain ⟨tb, db, body⟩ := body_X0 S (outer := outer) (H := H) (E := E) (Q := Q) hr
    obtain ⟨tB, dB_, tail⟩ := law_tailB S (outer := outer) (H := H) (E := E) (Q := Q) hr k
    have main : ∃ tt, PSs (cxL P w K mg base cdv A outer s H E) (defBody s_law) tt ∧ tt { nx := fun _ H' => Q .non H', rt := Q } (start N_law [V.ref a]) H := by
      refine ⟨_, pss_cons (ps_set (i := 1) sc_law.nd rfl (by walk_at "lv") (pe_k S.hand h1 (by rfl) pass0 (pa_cons (pv 0) pa_nil))) (pss_cons (ps_for PassesOwn.never rfl (pi_range1 (by rfl) S.n.range (pa_cons pe_int pa_nil)) (pg_name (i := 2) sc_law.nd rfl (by walk_at "lv")) db) dB_), ?_⟩
      refine ⟨_, rfl, a, ns, rfl, hS, hlen, fun p c H1 _ _ hp s1 => ?_⟩
      refine ⟨3, rfl, by decide, by decide, for_range (n := 3) (fun i σ H2 => PvL a p c σ H2) ⟨none, none, none, none, none, none, none, none, none, none, none, none, none, none, none, none, none, none, none, none, none, none, rfl, hp⟩ ?_ ?_⟩
      · rintro turn σ H2 hturn ⟨y2, y3, y4, y5, y6, y7, y8, y9, y10, y11, y12, y13, y14, y15, y16, y17, y18, y19, y20, y21, y22, y23, rfl, hp2⟩
        exact body H2 a p c (some (.int (0 + (turn : Nat)))) y3 y4 y5 y6 y7 y8 y9 y10 y11 y12 y13 y14 y15 y16 y17 y18 y19 y20 y21 y22 y23 _ hp2
      · rintro σ H2 ⟨y2, y3, y4, y5, y6, y7, y8, y9, y10, y11, y12, y13, y14, y15, y16, y17, y18, y19, y20, y21, y22, y23, rfl, hp2⟩
        exact tail H2 a p c y2 y3 y4 y5 y6 y7 y8 y9 y10 y11 y12 y13 y14 y15 y16 y17 y18 y19 y20 y21 y22 y23 hp2
    obtain ⟨tt, d1, d2⟩ := main
    exact ⟨tt, d1.nox, d2⟩
end
end My
set_option Elab.async false
set_option linter.all false
set_option maxRecDepth 100000
set_option maxHeartbeats 8000000
namespace My
open PySem PySem.Spec PyProof.Rows L2
abbrev R : PySem.W.OpenRow := PySem.W.OpenLaw.row PySem.Challenge.rw_truebooks_k02_lots_moved_turned_and_rest
abbrev hk : PySem.W.Hook := hookM 5 facts
def ob (s : PySem.W.SharedT) : AlM := obsM facts (He.frG (HandSHeadRun.getT s) (He.asD (HandSHeadRun.getT s) 5))
theorem ob_eq (s : PySem.W.SharedT) : ob s = hk.obs s.abs := obsM_eq (HandSHeadRun.getT_eq s)
theorem run (w : World) : HandSHeadRun.RunEqI R (PySem.W.view R.prog [0, 46]) hk ob 12000 looseN w := by
  unfold HandSHeadRun.RunEqI
  kernel_rfl
end My
open PySem PySem.W PySem.Calls PyProof.Rows
theorem PySem.Challenge.cw_truebooks_k02_lots_moved_turned_and_rest_holds : PySem.Challenge.rw_truebooks_k02_lots_moved_turned_and_rest.Holds := by
  w_on; o_law
  refine HandSHeadRun.head_imp (r := My.R) (q := view My.R.prog [0, 46]) (H := My.hk) (ob := My.ob) (M := 12000) (loose := My.looseN) (d := HandSHeadRun.topDef My.R.prog 46) (kwd := []) My.ob_eq
    My.run (by kernel_rfl) (by kernel_rfl) (by kernel_rfl) (by rfl) (by first | assumption | decide +kernel) (by decide +kernel) ⟨rfl, rfl, rfl, rfl, rfl, by decide +kernel⟩ ?hw ?hc
  case hw => w_witness2
  case hc =>
    refine L2.walk_ofE (l := PySem.Challenge.rw_truebooks_k02_lots_moved_turned_and_rest) (n := 63) (k := 7) (x := "_law_script") (CX := L2.CX0) rfl (by decide) (by kernel_rfl) ⟨rfl, by decide, by decide⟩ ?F (fun _ _ _ _ z => z)
    intro w mg fa h Y G hmg0
    obtain ⟨K, KX, c⟩ := Y
    have c1 : My.facts K = true := congrArg (fun z : My.AlM => z.1) c
    have c2 : He5.SaysA [] My.fns K := congrArg (fun z : My.AlM => z.2) c
    have hmg : mg ("law" : PySem.Str) = some (.ref fa) := by
      have e : (HandSHeadRun.topDef My.R.prog 46).name = ("law" : PySem.Str) := by kernel_rfl
      rw [← e]
      exact hmg0
    obtain ⟨fd0, F0⟩ := c2.def_ 34 (d := My.dG "law" My.s_law) rfl
    have ea : fa = He.ga K "law" := by
      have m0 := My.law_at KX G c1
      rw [hmg] at m0
      exact Value.ref.inj (Option.some.inj m0)
    subst ea
    exact ⟨K, fd0, My.spLaw K, KX, fun s u => My.binds_law F0 s u, fun H a ns hl _ hS => ⟨a, ns, rfl, hS, hl, fun _ => rfl⟩, fun base _ _ => My.kp_law F0 (My.law_src KX G c1 c2 base)⟩
