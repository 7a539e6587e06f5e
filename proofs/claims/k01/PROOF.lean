import PyProof.Rows.All
import Wide.All
import OpenK.AllK
import Wide.FinOn
import HandS.ForMost
import HandS.Wide
import HandS.Walk
import HandS.Defaults
import HandS.Exc
import HandS.ExcInit
import HandS.ExcIs
import KE.KExcIs
import HandS.ExcField
import HandS.ExcValue
import HandS.IsInst
import HandS.TryOnly
import HandS.ExcOwn
import HandS.WordsExc
import HandS.Head0
import HandS.Head1
import HandS.Head2
import HandS.HeadEnd
import HandS.HeadHook1
import HandS.HeadHook2
import HandS.HotCalls
import PySem.Challenge.RW_truebooks_k01_lots_put_together
import PyProof.LongRange
import HandS.Flow
import HandS.NoneIn
import HandS.DictComp
import HandS.Comp
import KE.KDictZip
import KE.KItemsList
import HandS.Deep
import HandS.Gcd
import HandS.ListItems
import KE.KMathGC
import HandS.Dict
import HandS.Head3
import HandS.HeadNt
import HandS.Conv
import HandS.OwnEq
import HandS.Property
set_option linter.all false
namespace My
/-! ### the mathematics of lots: plain Lean -/
def cyc (l : List Bool) (n : Int) : Bool := l.getD (n % (l.length : Int)).toNat false
def Per (f : Int → Bool) (d : Nat) : Prop := ∀ n : Int, f (n + d) = f n
theorem Per.mul {f : Int → Bool} {d : Nat} (h : Per f d) (k : Nat) : Per f (d * k) := by
  induction k with
  | zero => intro n; simp
  | succ k ih =>
    intro n
    have e : n + ((d * (k + 1) : Nat) : Int) = (n + ((d * k : Nat) : Int)) + (d : Int) := by
      rw [Nat.mul_succ]; push_cast; omega
    rw [e, h, ih]
theorem Per.back {f : Int → Bool} {d : Nat} (h : Per f d) (n : Int) : f (n - d) = f n := by
  have := h (n - d)
  rw [← this]; congr 1; omega
theorem Per.mulI {f : Int → Bool} {d : Nat} (h : Per f d) (k : Int) (n : Int) : f (n + d * k) = f n := by
  rcases Int.le_total 0 k with hk | hk
  · obtain ⟨j, rfl⟩ := Int.eq_ofNat_of_zero_le hk
    have := h.mul j n
    push_cast at this
    exact this
  · obtain ⟨j, hj⟩ := Int.eq_ofNat_of_zero_le (by omega : 0 ≤ -k)
    have e : k = -(j : Int) := by omega
    subst e
    have := (h.mul j).back n
    push_cast at this
    rw [← this]; congr 1; rw [Int.mul_neg]; omega
theorem Per.mod {f : Int → Bool} {d : Nat} (h : Per f d) (n : Int) : f (n % d) = f n := by
  have e := Int.emod_add_mul_ediv n (d : Int)
  have := h.mulI (n / d) (n % d)
  rw [e] at this
  exact this.symm
/-- two numbers alike modulo a period -/
theorem Per.cong {f : Int → Bool} {d : Nat} (h : Per f d) {a b : Int} (e : a % (d : Int) = b % (d : Int)) : f a = f b := by
  rw [← h.mod a, ← h.mod b, e]
theorem cyc_per {l : List Bool} : Per (cyc l) l.length := by
  intro n
  unfold cyc
  rw [Int.add_emod_right]
theorem cyc_lt {l : List Bool} {k : Nat} (h : k < l.length) : cyc l (k : Int) = l.getD k false := by
  unfold cyc
  have : ((k : Int) % (l.length : Int)).toNat = k := by
    rw [Int.emod_eq_of_lt (by omega) (by omega)]; rfl
  rw [this]
/-- least common period of two functions -/
structure Least (U D : Int → Bool) (d : Nat) : Prop where
  pos : 0 < d
  pu : Per U d
  pd : Per D d
  le : ∀ e : Nat, 0 < e → Per U e → Per D e → d ≤ e
theorem Least.dvd {U D : Int → Bool} {d m : Nat} (h : Least U D d) (hm : 0 < m) (pu : Per U m) (pd : Per D m) : m % d = 0 := by
  have key : ∀ {f : Int → Bool}, Per f d → Per f m → Per f (m % d) := by
    intro f hd hm' n
    have e := Nat.mod_add_div m d
    have e2 : n + ((m % d : Nat) : Int) = (n + (m : Int)) - ((d * (m / d) : Nat) : Int) := by
      have : (m : Int) = ((m % d + d * (m / d) : Nat) : Int) := by rw [e]
      rw [this]; push_cast; omega
    rw [e2, (hd.mul (m / d)).back, hm']
  rcases Nat.eq_zero_or_pos (m % d) with h0 | h0
  · exact h0
  · have := h.le _ h0 (key h.pu pu) (key h.pd pd)
    have := Nat.mod_lt m h.pos
    omega
theorem least_ex {U D : Int → Bool} : ∀ m : Nat, 0 < m → Per U m → Per D m → ∃ d, Least U D d := by
  intro m
  induction m using Nat.strongRecOn with | ind m ih =>
    intro hm pu pd
    by_cases h : ∃ e, 0 < e ∧ e < m ∧ Per U e ∧ Per D e
    · obtain ⟨e, he, hlt, pu', pd'⟩ := h
      exact ih e hlt he pu' pd'
    · refine ⟨m, hm, pu, pd, fun e he pu' pd' => ?_⟩
      rcases Nat.lt_or_ge e m with q | q
      · exact absurd ⟨e, he, q, pu', pd'⟩ h
      · exact q
theorem Least.unique {U D : Int → Bool} {d e : Nat} (h : Least U D d) (g : Least U D e) : d = e :=
  Nat.le_antisymm (h.le e g.pos g.pu g.pd) (g.le d h.pos h.pu h.pd)
/-- lists: d divides the length, and what stands at k stands at k mod d: a period of cyc -/
theorem per_of {l : List Bool} {d : Nat} (hd : 0 < d) (hm : l.length % d = 0) (h : ∀ k, k < l.length → l.getD k false = l.getD (k % d) false) : Per (cyc l) d := by
  rcases Nat.eq_zero_or_pos l.length with h0 | hl
  · intro n; unfold cyc; rw [List.length_eq_zero_iff.mp h0]; rfl
  have at_ : ∀ n : Int, cyc l n = l.getD (n % (d : Int)).toNat false := by
    intro n
    have k0 := Int.emod_nonneg n (by omega : (l.length : Int) ≠ 0)
    have k1 := Int.emod_lt_of_pos n (by omega : (0 : Int) < (l.length : Int))
    unfold cyc
    rw [h _ (by omega)]
    congr 1
    have e : (l.length : Int) = (d : Int) * ((l.length / d : Nat) : Int) := by
      have := Nat.mod_add_div l.length d
      rw [hm, Nat.zero_add] at this
      exact_mod_cast this.symm
    have q : (n % (l.length : Int)) % (d : Int) = n % (d : Int) := by
      rw [e]; exact Int.emod_emod_of_dvd n ⟨_, rfl⟩
    have : ((n % (l.length : Int)).toNat % d : Nat) = ((n % (l.length : Int)) % (d : Int)).toNat := by
      have q2 : (((n % (l.length : Int)).toNat : Nat) : Int) = n % (l.length : Int) := by omega
      have : (((n % (l.length : Int)).toNat % d : Nat) : Int) = (n % (l.length : Int)) % (d : Int) := by rw [Int.natCast_emod, q2]
      omega
    rw [this, q]
  intro n
  rw [at_, at_, Int.add_emod_right]
theorem of_per {l : List Bool} {d : Nat} (hd : 0 < d) (h : Per (cyc l) d) (hdl : d ≤ l.length) : ∀ k, k < l.length → l.getD k false = l.getD (k % d) false := by
  intro k hk
  have hlt := Nat.mod_lt k hd
  rw [← cyc_lt hk, ← cyc_lt (show k % d < l.length by omega)]
  have := h.mod (k : Int)
  rw [← this]; push_cast; rfl
/-- the same by shifts: what stands d further is alike -/
theorem shift_of {l : List Bool} {d : Nat} (hd : 0 < d) (h : ∀ k, k + d < l.length → l.getD (k + d) false = l.getD k false) : ∀ k, k < l.length → l.getD k false = l.getD (k % d) false := by
  intro k
  induction k using Nat.strongRecOn with
  | ind k ih =>
    intro hk
    rcases Nat.lt_or_ge k d with q | q
    · rw [Nat.mod_eq_of_lt q]
    · have e : k = (k - d) + d := by omega
      have := h (k - d) (by omega)
      rw [← e] at this
      rw [this, ih (k - d) (by omega) (by omega), e, Nat.add_mod_right]
      congr 2; omega
/-! ### a telling -/
structure Tl where
  lo : Int
  cs : List Bool
  us : List Bool
  ds : List Bool
def Tl.m (T : Tl) : Nat := T.us.length
def Tl.hi (T : Tl) : Int := T.lo + T.cs.length - 1
def Tl.U (T : Tl) : Int → Bool := cyc T.us
def Tl.D (T : Tl) : Int → Bool := cyc T.ds
def Tl.has (T : Tl) (n : Int) : Bool := if n < T.lo then T.D n else if T.hi < n then T.U n else T.cs.getD (n - T.lo).toNat false
structure Tl.Ok (T : Tl) : Prop where
  len : T.ds.length = T.us.length
  pos : 0 < T.us.length
theorem Tl.Ok.pu {T : Tl} (h : T.Ok) : Per T.U T.m := cyc_per
theorem Tl.Ok.pd {T : Tl} (h : T.Ok) : Per T.D T.m := by
  have := cyc_per (l := T.ds)
  rw [h.len] at this
  exact this
structure IsForm (h U D : Int → Bool) (lo hi : Int) (d : Nat) : Prop where
  least : Least U D d
  ends : ((∀ n, h n = U n) ∧ (∀ n, h n = D n) ∧ lo = 0 ∧ hi = -1) ∨
    (h hi ≠ U hi ∧ (∀ n, hi < n → h n = U n) ∧ lo ≤ hi + 1 ∧ (∀ n, n < lo → h n = D n) ∧ (lo = hi + 1 ∨ h lo ≠ D lo))
theorem IsForm.unique {h U D : Int → Bool} {lo hi lo' hi' : Int} {d d' : Nat} (a : IsForm h U D lo hi d) (b : IsForm h U D lo' hi' d') : lo = lo' ∧ hi = hi' ∧ d = d' := by
  refine ⟨?_, ?_, a.least.unique b.least⟩ <;> rcases a.ends with ⟨a1, a2, a3, a4⟩ | ⟨a1, a2, a3, a4, a5⟩ <;> rcases b.ends with ⟨b1, b2, b3, b4⟩ | ⟨b1, b2, b3, b4, b5⟩
  · omega
  · exact absurd (a1 _) b1
  · exact absurd (b1 _) a1
  · have e : hi = hi' := by
      rcases Int.lt_trichotomy hi hi' with q | q | q
      · exact absurd (a2 _ q) b1
      · exact q
      · exact absurd (b2 _ q) a1
    subst e
    rcases Int.lt_trichotomy lo lo' with q | q | q
    · rcases a5 with a5 | a5
      · omega
      · exact absurd (b4 _ q) a5
    · exact q
    · rcases b5 with b5 | b5
      · omega
      · exact absurd (a4 _ q) b5
  · omega
  · exact absurd (a1 _) b1
  · exact absurd (b1 _) a1
  · rcases Int.lt_trichotomy hi hi' with q | q | q
    · exact absurd (a2 _ q) b1
    · exact q
    · exact absurd (b2 _ q) a1
theorem IsForm.above {h U D : Int → Bool} {lo hi : Int} {d : Nat} (a : IsForm h U D lo hi d) {n : Int} (hn : hi < n) : h n = U n := by
  rcases a.ends with e | e
  · exact e.1 n
  · exact e.2.1 n hn
theorem IsForm.below {h U D : Int → Bool} {lo hi : Int} {d : Nat} (a : IsForm h U D lo hi d) {n : Int} (hn : n < lo) : h n = D n := by
  rcases a.ends with e | e
  · exact e.2.1 n
  · exact e.2.2.2.1 n hn
theorem IsForm.size {h U D : Int → Bool} {lo hi : Int} {d : Nat} (a : IsForm h U D lo hi d) : lo ≤ hi + 1 := by
  rcases a.ends with e | e
  · omega
  · exact e.2.2.1
/-! ### what holds of a telling beyond its window -/
theorem Tl.above {T : Tl} {n : Int} (h : T.hi < n) : T.has n = T.U n := by
  unfold Tl.has Tl.hi at *
  rw [if_neg (by omega), if_pos (by omega)]
theorem Tl.below {T : Tl} {n : Int} (h : n < T.lo) : T.has n = T.D n := by
  unfold Tl.has
  rw [if_pos h]
theorem Tl.core {T : Tl} {n : Int} (h : T.lo ≤ n) (h2 : n ≤ T.hi) : T.has n = T.cs.getD (n - T.lo).toNat false := by
  unfold Tl.has; rw [if_neg (by omega), if_neg (by omega)]
/-- a function that is alike on m numbers in a row below is alike below -/
theorem Tl.all_above {T : Tl} (ok : T.Ok) {a : Int} (ha : a ≤ T.lo) (h : ∀ n, a - T.m ≤ n → n < a → T.has n = T.U n) : ∀ n, n < a → T.has n = T.U n := by
  intro n hn
  have hm : (0 : Int) < (T.m : Int) := by have := ok.pos; unfold Tl.m; omega
  rw [Tl.below (show n < T.lo by omega)]
  have k0 := Int.emod_nonneg (n - (a - T.m)) (by omega : (T.m : Int) ≠ 0)
  have k1 := Int.emod_lt_of_pos (n - (a - T.m)) hm
  have q := h ((a - T.m) + (n - (a - T.m)) % (T.m : Int)) (by omega) (by omega)
  rw [Tl.below (by omega)] at q
  have cg : ((a - T.m) + (n - (a - T.m)) % (T.m : Int)) % (T.m : Int) = n % (T.m : Int) := by
    rw [Int.add_emod_emod]; congr 1; omega
  rw [ok.pd.cong cg, ok.pu.cong cg] at q
  exact q
end My
set_option linter.all false
namespace My
/-- n irow in a row from lo -/
def irow (lo : Int) (n : Nat) : List Int := (List.range n).map fun k => lo + (k : Nat)
theorem irow_succ (lo : Int) (n : Nat) : irow lo (n + 1) = irow lo n ++ [lo + (n : Nat)] := by
  unfold irow
  rw [List.range_succ, List.map_append]
  rfl
theorem mem_irow {lo x : Int} {n : Nat} : x ∈ irow lo n ↔ lo ≤ x ∧ x < lo + n := by
  unfold irow
  rw [List.mem_map]
  constructor
  · rintro ⟨k, hk, rfl⟩
    have := List.mem_range.mp hk
    omega
  · intro h
    exact ⟨(x - lo).toNat, List.mem_range.mpr (by omega), by omega⟩
def fil (P : Int → Bool) (lo : Int) (n : Nat) : List Int := (irow lo n).filter P
theorem fil_zero (P : Int → Bool) (lo : Int) : fil P lo 0 = [] := rfl
theorem fil_succ (P : Int → Bool) (lo : Int) (n : Nat) : fil P lo (n + 1) = fil P lo n ++ (if P (lo + (n : Nat)) = true then [lo + (n : Nat)] else []) := by
  unfold fil
  rw [irow_succ, List.filter_append]
  congr 1
  by_cases h : P (lo + (n : Nat)) = true
  · rw [if_pos h, List.filter_cons_of_pos h]; rfl
  · rw [if_neg h, List.filter_cons_of_neg h]; rfl
theorem fil_pos {P : Int → Bool} {lo : Int} {n : Nat} (h : P (lo + (n : Nat)) = true) : fil P lo (n + 1) = fil P lo n ++ [lo + (n : Nat)] := by
  rw [fil_succ, if_pos h]
theorem fil_neg {P : Int → Bool} {lo : Int} {n : Nat} (h : ¬ P (lo + (n : Nat)) = true) : fil P lo (n + 1) = fil P lo n := by
  rw [fil_succ, if_neg h, List.append_nil]
theorem mem_fil {P : Int → Bool} {lo x : Int} {n : Nat} : x ∈ fil P lo n ↔ (lo ≤ x ∧ x < lo + n) ∧ P x = true := by
  unfold fil
  rw [List.mem_filter, mem_irow]
theorem fil_len (P : Int → Bool) (lo : Int) (n : Nat) : (fil P lo n).length ≤ n := by
  unfold fil
  refine Nat.le_trans (List.length_filter_le _ _) ?_
  unfold irow
  simp
theorem fil_cong {P Q : Int → Bool} {lo : Int} {n : Nat} (h : ∀ x, lo ≤ x → x < lo + n → P x = Q x) : fil P lo n = fil Q lo n := by
  unfold fil
  refine List.filter_congr fun x hx => ?_
  have := mem_irow.mp hx
  exact h x this.1 this.2
theorem irow_asc (lo : Int) : ∀ n, (irow lo n).Pairwise (· < ·)
  | 0 => List.Pairwise.nil
  | n + 1 => by
    rw [irow_succ, List.pairwise_append]
    refine ⟨irow_asc lo n, List.pairwise_singleton _ _, fun a ha b hb => ?_⟩
    have h1 := mem_irow.mp ha
    rw [List.mem_singleton.mp hb]
    omega
theorem fil_asc (P : Int → Bool) (lo : Int) (n : Nat) : (fil P lo n).Pairwise (· < ·) := (irow_asc lo n).filter _
theorem fil_nodup (P : Int → Bool) (lo : Int) (n : Nat) : (fil P lo n).Nodup := (fil_asc P lo n).imp fun h => Int.ne_of_lt h
/-- the first and the last that P takes -/
theorem fil_first {P : Int → Bool} {lo : Int} {n : Nat} (hx : ∃ x, lo ≤ x ∧ x < lo + n ∧ P x = true) : ∃ v, (fil P lo n)[0]? = some v ∧ lo ≤ v ∧ v < lo + n ∧ P v = true ∧ ∀ x, lo ≤ x → x < v → P x = false := by
  obtain ⟨x, h1, h2, h3⟩ := hx
  have hm := mem_fil.mpr ⟨⟨h1, h2⟩, h3⟩
  have asc := fil_asc P lo n
  cases e : fil P lo n with
  | nil => rw [e] at hm; cases hm
  | cons v r =>
    rw [e] at asc
    have hv : v ∈ fil P lo n := by rw [e]; exact List.mem_cons_self
    have hv := mem_fil.mp hv
    refine ⟨v, rfl, hv.1.1, hv.1.2, hv.2, fun y hy hlt => ?_⟩
    cases q : P y with
    | false => rfl
    | true =>
      have hy2 : y ∈ fil P lo n := mem_fil.mpr ⟨⟨hy, by omega⟩, q⟩
      rw [e] at hy2
      rcases List.mem_cons.mp hy2 with z | z
      · omega
      · have := (List.pairwise_cons.mp asc).1 y z
        omega
theorem fil_last {P : Int → Bool} {lo : Int} {n : Nat} (hx : fil P lo n ≠ []) : ∃ r v, fil P lo n = r ++ [v] ∧ lo ≤ v ∧ v < lo + n ∧ P v = true ∧ ∀ x, v < x → x < lo + n → P x = false := by
  have asc := fil_asc P lo n
  refine ⟨(fil P lo n).dropLast, (fil P lo n).getLast hx, (List.dropLast_concat_getLast hx).symm, ?_⟩
  have hv := mem_fil.mp (List.getLast_mem hx)
  refine ⟨hv.1.1, hv.1.2, hv.2, fun y hlt hy => ?_⟩
  cases q : P y with
  | false => rfl
  | true =>
    have hy2 : y ∈ fil P lo n := mem_fil.mpr ⟨⟨by omega, hy⟩, q⟩
    rw [← List.dropLast_concat_getLast hx] at hy2 asc
    rcases List.mem_append.mp hy2 with z | z
    · have := (List.pairwise_append.mp asc).2.2 y z _ (List.mem_singleton.mpr rfl)
      omega
    · have := List.mem_singleton.mp z
      omega
theorem fil_nil {P : Int → Bool} {lo : Int} {n : Nat} (h : fil P lo n = []) : ∀ x, lo ≤ x → x < lo + n → P x = false := by
  intro x h1 h2
  cases q : P x with
  | false => rfl
  | true =>
    have := mem_fil.mpr ⟨⟨h1, h2⟩, q⟩
    rw [h] at this
    cases this
/-- the places of the flags -/
def res (bs : List Bool) : List Int := fil (fun k => bs.getD k.toNat false) 0 bs.length
theorem mem_res {bs : List Bool} {x : Int} : x ∈ res bs ↔ (0 ≤ x ∧ x < bs.length) ∧ bs.getD x.toNat false = true := by
  unfold res
  rw [mem_fil, Int.zero_add]
theorem rep_flat {α : Type} (x : α) : ∀ n, (List.replicate n [x]).flatten = List.replicate n x
  | 0 => rfl
  | n + 1 => by
    rw [List.replicate_succ, List.flatten_cons, rep_flat x n, List.replicate_succ]
    rfl
end My
set_option linter.all false
namespace My
theorem per_shift {l : List Bool} {d : Nat} (h : Per (cyc l) d) : ∀ k, k + d < l.length → l.getD (k + d) false = l.getD k false := by
  intro k hk
  rw [← cyc_lt hk, ← cyc_lt (show k < l.length by omega)]
  have := h (k : Int)
  rw [← this]; congr 1
theorem cut_shift {l : List Bool} {d : Nat} (hd : d ≤ l.length) : (l.drop d = l.take (l.length - d)) ↔ ∀ k, k + d < l.length → l.getD (k + d) false = l.getD k false := by
  constructor
  · intro h k hk
    have h1 : (l.drop d)[k]? = l[k + d]? := by rw [List.getElem?_drop, Nat.add_comm]
    have h2 : (l.take (l.length - d))[k]? = l[k]? := by rw [List.getElem?_take]; rw [if_pos (by omega)]
    rw [List.getD_eq_getElem?_getD, List.getD_eq_getElem?_getD, ← h1, ← h2, h]
  · intro h
    refine List.ext_getElem (by rw [List.length_drop, List.length_take]; omega) fun k h1 h2 => ?_
    rw [List.length_drop] at h1
    have := h k (by omega)
    rw [List.getElem_drop, List.getElem_take]
    rw [List.getD_eq_getElem?_getD, List.getD_eq_getElem?_getD, List.getElem?_eq_getElem (by omega), List.getElem?_eq_getElem (by omega)] at this
    simpa [Nat.add_comm] using this
theorem shift_per {l : List Bool} {d : Nat} (hd : 0 < d) (hm : l.length % d = 0) (h : ∀ k, k + d < l.length → l.getD (k + d) false = l.getD k false) : Per (cyc l) d := per_of hd hm (shift_of hd h)
theorem cyc_take {l : List Bool} {d : Nat} (hd : 0 < d) (hl : d ≤ l.length) (h : Per (cyc l) d) : cyc (l.take d) = cyc l := by
  funext n
  have hlen : (l.take d).length = d := by rw [List.length_take]; omega
  have k0 := Int.emod_nonneg n (by omega : (d : Int) ≠ 0)
  have k1 := Int.emod_lt_of_pos n (by omega : (0 : Int) < (d : Int))
  rw [← h.mod n]
  conv => lhs; unfold cyc
  rw [hlen]
  have e : n % (d : Int) = (((n % (d : Int)).toNat : Nat) : Int) := by omega
  have : cyc l (n % (d : Int)) = l.getD (n % (d : Int)).toNat false := by
    have q := cyc_lt (l := l) (k := (n % (d : Int)).toNat) (by omega)
    rw [← e] at q
    exact q
  rw [this, List.getD_eq_getElem?_getD, List.getD_eq_getElem?_getD, List.getElem?_take, if_pos (by omega)]
/-- the least one among those that divide -/
theorem least_by {U D : Int → Bool} {m d : Nat} (hm : 0 < m) (pu : Per U m) (pd : Per D m) (hd : 0 < d) (du : Per U d) (dd : Per D d) (h : ∀ e, 0 < e → e < d → m % e = 0 → Per U e → Per D e → False) : Least U D d := by
  obtain ⟨p, hp⟩ := least_ex m hm pu pd
  refine ⟨hd, du, dd, fun e he eu ed => ?_⟩
  rcases Nat.lt_or_ge p d with q | q
  · exact (h p hp.pos q (hp.dvd hm pu pd) hp.pu hp.pd).elim
  · exact Nat.le_trans q (hp.le e he eu ed)
/-- where the sides part -/
theorem Tl.parts {T : Tl} (ok : T.Ok) (h : ∃ n, T.has n ≠ T.U n) (hc : ∀ n, T.lo ≤ n → n ≤ T.hi → T.has n = T.D n) : ∃ w, T.hi < w ∧ w ≤ T.hi + T.m ∧ T.U w ≠ T.D w := by
  refine Classical.byContradiction fun no => ?_
  have all : ∀ n, T.U n = T.D n := by
    intro n
    have hm : (0 : Int) < (T.m : Int) := by have := ok.pos; unfold Tl.m; omega
    have k0 := Int.emod_nonneg (n - (T.hi + 1)) (by omega : (T.m : Int) ≠ 0)
    have k1 := Int.emod_lt_of_pos (n - (T.hi + 1)) hm
    have cg : ((T.hi + 1) + (n - (T.hi + 1)) % (T.m : Int)) % (T.m : Int) = n % (T.m : Int) := by
      rw [Int.add_emod_emod]; congr 1; omega
    have q : T.U ((T.hi + 1) + (n - (T.hi + 1)) % (T.m : Int)) = T.D ((T.hi + 1) + (n - (T.hi + 1)) % (T.m : Int)) := by
      refine Classical.byContradiction fun z => no ⟨_, ?_, ?_, z⟩ <;> omega
    rw [ok.pu.cong cg, ok.pd.cong cg] at q
    exact q
  obtain ⟨n, hn⟩ := h
  refine hn ?_
  rcases Int.lt_or_le n T.lo with q | q
  · rw [Tl.below q, all]
  · rcases Int.lt_or_le T.hi n with q2 | q2
    · exact Tl.above q2
    · rw [hc n q q2, all]
/-- the form from its two ends -/
theorem form_none {T : Tl} (ok : T.Ok) {d : Nat} (hd : Least T.U T.D d) (h : ∀ n, T.has n = T.U n) : IsForm T.has T.U T.D 0 (-1) d := by
  refine ⟨hd, .inl ⟨h, fun n => ?_, rfl, rfl⟩⟩
  -- below lo: has = D, and has = U: so U = D there, so everywhere
  have hm : (0 : Int) < (T.m : Int) := by have := ok.pos; unfold Tl.m; omega
  have k0 := Int.emod_nonneg (n - T.lo) (by omega : (T.m : Int) ≠ 0)
  have k1 := Int.emod_lt_of_pos (n - T.lo) hm
  have cg : ((T.lo - T.m) + (n - T.lo) % (T.m : Int)) % (T.m : Int) = n % (T.m : Int) := by
    rw [Int.add_emod_emod]
    have : T.lo - (T.m : Int) + (n - T.lo) = n - (T.m : Int) := by omega
    rw [this, Int.sub_emod_right]
  have q := h ((T.lo - T.m) + (n - T.lo) % (T.m : Int))
  rw [Tl.below (by omega)] at q
  rw [ok.pd.cong cg, ok.pu.cong cg] at q
  rw [h n, q]
theorem form_some {T : Tl} {d : Nat} {v b : Int} (hd : Least T.U T.D d) (h1 : T.has v ≠ T.U v) (h2 : ∀ n, v < n → T.has n = T.U n) (h3 : T.has b ≠ T.D b) (h4 : ∀ n, n < b → T.has n = T.D n) :
    IsForm T.has T.U T.D (if v + 1 < b then v + 1 else b) v d := by
  refine ⟨hd, .inr ⟨h1, h2, by split <;> omega, fun n hn => h4 n (by split at hn <;> omega), ?_⟩⟩
  split
  · exact .inl rfl
  · exact .inr h3
end My
set_option linter.all false
namespace My
def rep (k : Nat) (l : List Bool) : List Bool := (List.replicate k l).flatten
theorem rep_len (l : List Bool) : ∀ k, (rep k l).length = k * l.length
  | 0 => by simp [rep]
  | k + 1 => by
    unfold rep
    rw [List.replicate_succ, List.flatten_cons, List.length_append]
    have := rep_len l k
    unfold rep at this
    rw [this, Nat.succ_mul]; omega
theorem rep_get (l : List Bool) (hl : 0 < l.length) : ∀ (k i : Nat), i < k * l.length → (rep k l).getD i false = l.getD (i % l.length) false
  | 0, i, h => by omega
  | k + 1, i, h => by
    have e : rep (k + 1) l = l ++ rep k l := by unfold rep; rw [List.replicate_succ, List.flatten_cons]
    rw [e, List.getD_eq_getElem?_getD]
    rcases Nat.lt_or_ge i l.length with q | q
    · rw [List.getElem?_append_left q, Nat.mod_eq_of_lt q, List.getD_eq_getElem?_getD]
    · rw [List.getElem?_append_right q, ← List.getD_eq_getElem?_getD, rep_get l hl k (i - l.length) (by rw [Nat.succ_mul] at h; omega)]
      congr 1
      conv => rhs; rw [show i = (i - l.length) + l.length by omega, Nat.add_mod_right]
theorem cyc_rep {l : List Bool} {k : Nat} (hk : 0 < k) (hl : 0 < l.length) : cyc (rep k l) = cyc l := by
  funext n
  have hkl : 0 < k * l.length := Nat.mul_pos hk hl
  have k0 := Int.emod_nonneg n (by omega : ((k * l.length : Nat) : Int) ≠ 0)
  have k1 := Int.emod_lt_of_pos n (by omega : (0 : Int) < ((k * l.length : Nat) : Int))
  unfold cyc
  rw [rep_len, rep_get l hl k _ (by omega)]
  congr 1
  have q : (n % ((k * l.length : Nat) : Int)) % (l.length : Int) = n % (l.length : Int) := by
    rw [Int.natCast_mul]
    exact Int.emod_emod_of_dvd n ⟨(k : Int), by rw [Int.mul_comm]⟩
  rw [← q]
  have e : n % ((k * l.length : Nat) : Int) = (((n % ((k * l.length : Nat) : Int)).toNat : Nat) : Int) := by omega
  conv => rhs; rw [e, ← Int.natCast_emod, Int.toNat_natCast]
/-- the same told again with a greater modulus and a wider core -/
def Tl.wide (T : Tl) (k l r : Nat) : Tl := ⟨T.lo - l, (List.range (T.cs.length + l + r)).map fun i => T.has (T.lo - l + (i : Nat)), rep k T.us, rep k T.ds⟩
theorem wide_U {T : Tl} {k l r : Nat} (ok : T.Ok) (hk : 0 < k) : (T.wide k l r).U = T.U := cyc_rep hk ok.pos
theorem wide_D {T : Tl} {k l r : Nat} (ok : T.Ok) (hk : 0 < k) : (T.wide k l r).D = T.D := cyc_rep hk (by rw [ok.len]; exact ok.pos)
theorem wide_ok {T : Tl} {k l r : Nat} (ok : T.Ok) (hk : 0 < k) : (T.wide k l r).Ok := ⟨by show (rep k T.ds).length = (rep k T.us).length; rw [rep_len, rep_len, ok.len], by show 0 < (rep k T.us).length; rw [rep_len]; exact Nat.mul_pos hk ok.pos⟩
theorem wide_hi {T : Tl} {k l r : Nat} : (T.wide k l r).hi = T.hi + r := by
  show T.lo - l + (((List.range (T.cs.length + l + r)).map fun i => T.has (T.lo - l + (i : Nat))).length : Int) - 1 = T.lo + T.cs.length - 1 + r
  rw [List.length_map, List.length_range]; push_cast
  omega
theorem wide_has {T : Tl} {k l r : Nat} (ok : T.Ok) (hk : 0 < k) : (T.wide k l r).has = T.has := by
  funext n
  have hlo : (T.wide k l r).lo = T.lo - l := rfl
  have hhi := wide_hi (T := T) (k := k) (l := l) (r := r)
  have hh : T.hi = T.lo + T.cs.length - 1 := rfl
  rcases Int.lt_or_le n (T.lo - l) with q | q
  · rw [Tl.below (by rw [hlo]; exact q), wide_D ok hk, Tl.below (by omega)]
  · rcases Int.lt_or_le (T.hi + r) n with q2 | q2
    · rw [Tl.above (by rw [hhi]; exact q2), wide_U ok hk, Tl.above (by omega)]
    · rw [Tl.core (by rw [hlo]; exact q) (by rw [hhi]; exact q2)]
      show ((List.range (T.cs.length + l + r)).map fun i => T.has (T.lo - l + (i : Nat))).getD (n - (T.lo - l)).toNat false = _
      have : (n - (T.lo - l)).toNat < T.cs.length + l + r := by omega
      rw [List.getD_eq_getElem?_getD, List.getElem?_map, List.getElem?_range this]
      show T.has (T.lo - l + ((n - (T.lo - l)).toNat : Nat)) = T.has n
      congr 1
      omega
/-! ### the law's own form -/
def okD (T : Tl) (d : Int) : Bool := decide ((T.us.length : Int) % d = 0) && ((List.range T.us.length).map fun k => decide (T.us.getD k false = cycD T.us k d) && decide (T.ds.getD k false = cycD T.ds k d)).all id
  where cycD (l : List Bool) (k : Nat) (d : Int) : Bool := l.getD ((k : Int) % d).toNat false
theorem all_ids {f : Nat → Bool} {m : Nat} : ((List.range m).map f).all id = true ↔ ∀ k, k < m → f k = true := by
  rw [List.all_eq_true]
  constructor
  · intro h k hk
    exact h _ (List.mem_map.mpr ⟨k, List.mem_range.mpr hk, rfl⟩)
  · rintro h x hx
    obtain ⟨k, hk, rfl⟩ := List.mem_map.mp hx
    exact h k (List.mem_range.mp hk)
theorem okD_iff {T : Tl} (ok : T.Ok) {d : Nat} (hd : 0 < d) (hm : d ≤ T.us.length) : okD T d = true ↔ (T.us.length % d = 0 ∧ Per T.U d ∧ Per T.D d) := by
  unfold okD
  rw [Bool.and_eq_true, all_ids, decide_eq_true_iff]
  have e : ∀ (l : List Bool) (k : Nat), okD.cycD l k (d : Int) = l.getD (k % d) false := fun l k => by
    unfold okD.cycD
    congr 1
  constructor
  · rintro ⟨h1, h2⟩
    have h1' : T.us.length % d = 0 := by exact_mod_cast h1
    refine ⟨h1', per_of hd h1' fun k hk => ?_, per_of hd (by rw [ok.len]; exact h1') fun k hk => ?_⟩
    · have := Bool.and_eq_true_iff.mp (h2 k hk)
      rw [← e]
      exact of_decide_eq_true this.1
    · rw [ok.len] at hk
      have := Bool.and_eq_true_iff.mp (h2 k hk)
      rw [← e]
      exact of_decide_eq_true this.2
  · rintro ⟨h1, h2, h3⟩
    refine ⟨by exact_mod_cast h1, fun k hk => Bool.and_eq_true_iff.mpr ⟨decide_eq_true ?_, decide_eq_true ?_⟩⟩
    · rw [e]
      exact of_per hd h2 hm k hk
    · rw [e]
      exact of_per hd h3 (by rw [ok.len]; exact hm) k (by rw [ok.len]; exact hk)
theorem size_first {T : Tl} (ok : T.Ok) : ∃ d : Nat, (fil (okD T) 1 T.us.length)[0]? = some (d : Int) ∧ d ≤ T.us.length ∧ Least T.U T.D d := by
  have hm := ok.pos
  have self : okD T (T.us.length : Nat) = true := (okD_iff ok hm (Nat.le_refl _)).mpr ⟨Nat.mod_self _, ok.pu, ok.pd⟩
  obtain ⟨v, h0, h1, h2, h3, h4⟩ := fil_first (P := okD T) (lo := 1) (n := T.us.length) ⟨(T.us.length : Int), by omega, by omega, self⟩
  obtain ⟨d, rfl⟩ := Int.eq_ofNat_of_zero_le (by omega : 0 ≤ v)
  have h3' := (okD_iff ok (by omega) (by omega)).mp h3
  refine ⟨d, h0, by omega, least_by hm ok.pu ok.pd (by omega) h3'.2.1 h3'.2.2 fun e he hlt hd pu pd => ?_⟩
  have := h4 (e : Int) (by omega) (by omega)
  rw [(okD_iff ok he (by omega)).mpr ⟨hd, pu, pd⟩] at this
  cases this
/-- the window shows all -/
theorem tops_nil {T : Tl} (ok : T.Ok) (h : fil (fun n => !decide (T.has n = T.U n)) (T.lo - T.us.length) (T.cs.length + T.us.length + T.us.length) = []) : ∀ n, T.has n = T.U n := by
  have hm : T.m = T.us.length := rfl
  have hh : T.hi = T.lo + T.cs.length - 1 := rfl
  have w : ∀ n, T.lo - T.us.length ≤ n → n ≤ T.hi + T.us.length → T.has n = T.U n := fun n h1 h2 => by
    have := fil_nil h n h1 (by push_cast; omega)
    simpa using this
  intro n
  rcases Int.lt_or_le n T.lo with q | q
  · exact Tl.all_above ok (Int.le_refl _) (fun n h1 h2 => w n (by omega) (by omega)) n q
  · rcases Int.lt_or_le T.hi n with q2 | q2
    · exact Tl.above q2
    · exact w n (by omega) (by omega)
theorem tops_last {T : Tl} (ok : T.Ok) {r : List Int} {v : Int} (h : fil (fun n => !decide (T.has n = T.U n)) (T.lo - T.us.length) (T.cs.length + T.us.length + T.us.length) = r ++ [v]) : T.has v ≠ T.U v ∧ (∀ n, v < n → T.has n = T.U n) ∧ T.lo - T.us.length ≤ v ∧ v ≤ T.hi := by
  have hh : T.hi = T.lo + T.cs.length - 1 := rfl
  obtain ⟨r', v', h1, h2, h3, h4, h5⟩ := fil_last (P := fun n => !decide (T.has n = T.U n)) (lo := T.lo - T.us.length) (n := T.cs.length + T.us.length + T.us.length) (by rw [h]; simp)
  rw [h] at h1
  have e : v = v' := by
    have := congrArg List.getLast? h1
    simpa using this
  subst e
  have h4' : T.has v ≠ T.U v := by simpa using h4
  have hv : v ≤ T.hi := by
    rcases Int.lt_or_le T.hi v with q | q
    · exact absurd (Tl.above q) h4'
    · exact q
  refine ⟨h4', fun n hn => ?_, h2, hv⟩
  rcases Int.lt_or_le T.hi n with q | q
  · exact Tl.above q
  · have := h5 n hn (by push_cast; omega)
    simpa using this
theorem bottoms_first {T : Tl} (ok : T.Ok) (ex : ∃ n, T.has n ≠ T.U n) : ∃ b, (fil (fun n => !decide (T.has n = T.D n)) (T.lo - T.us.length) (T.cs.length + T.us.length + T.us.length))[0]? = some b ∧ T.has b ≠ T.D b ∧ (∀ n, n < b → T.has n = T.D n) ∧ T.lo ≤ b := by
  have hh : T.hi = T.lo + T.cs.length - 1 := rfl
  have hm : T.m = T.us.length := rfl
  have hx : ∃ x, T.lo - T.us.length ≤ x ∧ x < T.lo - T.us.length + ((T.cs.length + T.us.length + T.us.length : Nat) : Int) ∧ (!decide (T.has x = T.D x)) = true := by
    refine Classical.byContradiction fun no => ?_
    have all : ∀ n, T.lo ≤ n → n ≤ T.hi + T.us.length → T.has n = T.D n := fun n h1 h2 => by
      refine Classical.byContradiction fun z => no ⟨n, by omega, by push_cast; omega, by simpa using z⟩
    obtain ⟨w, w1, w2, w3⟩ := Tl.parts ok ex fun n h1 h2 => all n h1 (by omega)
    refine w3 ?_
    rw [← Tl.above w1]
    exact all w (by omega) (by omega)
  obtain ⟨b, h0, h1, h2, h3, h4⟩ := fil_first hx
  have h3' : T.has b ≠ T.D b := by simpa using h3
  have hb : T.lo ≤ b := by
    rcases Int.lt_or_le b T.lo with q | q
    · exact absurd (Tl.below q) h3'
    · exact q
  refine ⟨b, h0, h3', fun n hn => ?_, hb⟩
  rcases Int.lt_or_le n T.lo with q | q
  · exact Tl.below q
  · have := h4 n (by omega) hn
    simpa using this
end My
set_option Elab.async false
set_option linter.all false
set_option maxRecDepth 100000
set_option maxHeartbeats 8000000
/-! common words of the proofs -/
namespace My
open PySem PySem.Spec PyProof.Rows L2
theorem smallB {n : Nat} (h : n ≤ 60000) : n < sizeLine := by rw [sizeLine_eq]; omega
def top (i : Nat) : Stmt := PySem.Challenge.pw_truebooks_k01_lots_put_together.main.body.getD i (.Pass ⟨0, 0, 0, 0⟩)
/-- the def at the module's name x keeps its promise -/
def Keeps (CX : CXT) (P : Program) (w : World) (K : PySem.W.Frag) (mg : Str → Option Value) (base : Heap) (x : Str) (k : Nat) (ps : List Str) (sp : Sp) : Prop :=
  ∃ fd, FnOk P w K mg base CX k (He.ga K x) fd ps sp ∧ Binds K fd ps [] ∧ PySem.W.keepIn K (.ref (He.ga K x)) = true ∧ mg x = some (.ref (He.ga K x))
theorem pe_k {X : Cx} {CX : CXT} {k : Nat} {ps : List Str} {sp : Sp} {E : XK} {x : Str} {p pos : Pos} {e : Expr} {es : List Expr} {t : TA} (h : Keeps CX X.prog X.w X.K X.mg X.base x k ps sp) (hr : Room k X.A) (hg : Gl X x) (hx : Passes CX X E)
    (ha : PA X (e :: es) t) (dbg : (x == ("__debug__" : Str)) = false := by decide) (hst : starEach (e :: es) X.env = (false, eval e X.env) :: starEach es X.env := by rfl) (hpl : (backTo pos (starEach es X.env)).any (·.1) = false := by rfl) :
    PE X (.Call (.Name x p) (e :: es) [] pos) (tCall sp [] E t) := by
  obtain ⟨fd, F, b, kp, m⟩ := h
  exact pe_call F hr hg m kp b .nil hx ha dbg hst hpl
/-- a def of the top, as it stands -/
def At (K : PySem.W.Frag) (mg : Str → Option Value) (x : Str) (st : Stmt) : Prop := mg x = some (.ref (He.ga K x)) ∧ ∃ fd, FunD K x x (defArgs st) (defBody st) (defScope st) [] [] (He.ga K x) fd
abbrev bindsBy (st : Stmt) (x : Str) (ps : List Str) : Prop := ∀ (kV doc pm : Value) (an : Option Addr) (cdv ct : Value) (us : List Value), us.length = ps.length → bindArgs (PySem.W.fnOf x x (defArgs st) (defBody st) (defScope st) .none kV doc pm an cdv ct) ⟨us, []⟩ = pure (ps.zip us)
section
variable {CX : CXT} {P : Program} {w : World} {K : PySem.W.Frag} {mg : Str → Option Value} {base : Heap}
theorem keeps_ofX {x : Str} {st : Stmt} {N ps : List Str} {k : Nat} {sp : Sp} (F : At K mg x st) (S : FnScope N ps (defScope st)) (hb : bindsBy st x ps) (len : ∀ vs H Q E, sp vs H Q E → vs.length = ps.length)
    (hbody : ∀ (f : Addr) (cdv : Value) (A : Around) (outer : List Env) (s : Shared) (H : Hp) (vs : List V) (Q : VK) (E : XK), Room k (A.deeper (envOfC x (defScope st) s.heap.objs.size f cdv)) → sp vs H Q E →
      ∃ t, PSs (cxOf CX P w K mg base N x (defScope st) f cdv A outer s H E) (defBody st) t ∧ t { nx := fun _ H' => Q .non H', rt := Q } (start N vs) H) : Keeps CX P w K mg base x (k + 1) ps sp := by
  obtain ⟨m, fd, F⟩ := F
  exact ⟨fd, F.ok S len (hbody _), F.bindsN hb, F.kp, m⟩
theorem keeps_of {x : Str} {st : Stmt} {N ps : List Str} {k : Nat} {sp : Sp} (F : At K mg x st) (S : FnScope N ps (defScope st)) (hb : bindsBy st x ps) (len : ∀ vs H Q E, sp vs H Q E → vs.length = ps.length)
    (hbody : ∀ (f : Addr) (cdv : Value) (A : Around) (outer : List Env) (s : Shared) (H : Hp) (vs : List V) (Q : VK) (E : XK), Room k (A.deeper (envOfC x (defScope st) s.heap.objs.size f cdv)) → sp vs H Q E →
      ∃ t, PSs (cxOf CX0 P w K mg base N x (defScope st) f cdv A outer s H E).nox (defBody st) t ∧ t { nx := fun _ H' => Q .non H', rt := Q } (start N vs) H) : Keeps CX0 P w K mg base x (k + 1) ps sp :=
  keeps_ofX F S hb len fun f cdv A outer s H vs Q E hr h => by
    obtain ⟨t, h1, h2⟩ := hbody f cdv A outer s H vs Q E hr h
    exact ⟨t, h1.nox, h2⟩
end
/-- all but p as it was -/
def But (p : Addr) (H H' : Hp) : Prop := ∀ b o, b ≠ p → H b = some o → H' b = some o
/-- a hand of draws stands at p, its cells at c -/
def HandC (H : Hp) (p c : Addr) : Prop := ∃ (cs : List Int) (at_ rest total : Int), H p = some (.lst [.ref c, .int at_, .int rest, .int total]) ∧ H c = some (.lst (cs.map V.int)) ∧ 0 ≤ at_
local macro_rules | `(tactic| walk_at "lv") => `(tactic| first | exact Or.inl rfl | exact Or.inr rfl)
/-! ### _law_mix -/
def spMix : Sp := fun vs H Q _ => ∃ a b : Int, vs = [.int a, .int b] ∧ ∀ r : Int, Q (.int r) H
abbrev s_mix : Stmt := top 38
abbrev N_mix : List Str := ["_law_number", "_law_turn", "_law_once", "_law_twice"]
theorem sc_mix : FnScope N_mix ["_law_number", "_law_turn"] (defScope s_mix) := ⟨rfl, rfl, rfl, by decide +kernel, rfl, by decide +kernel, by decide +kernel⟩
section
variable {P : Program} {w : World} {K : PySem.W.Frag} {mg : Str → Option Value} {base : Heap}
theorem mod_lt31 {a m : Int} (h : 0 < m) (hm : m < 2 ^ 40) : -(2 ^ 64) < a % m ∧ a % m < 2 ^ 64 := by
  have h1 := Int.emod_nonneg a (b := m) (by omega)
  have h2 := Int.emod_lt_of_pos a h
  omega
theorem kp_mix (F : At K mg "_law_mix" s_mix) (nI : mg "int" = none) : Keeps CX0 P w K mg base "_law_mix" 1 ["_law_number", "_law_turn"] spMix := by
  refine keeps_of F sc_mix (fun _ _ _ _ _ _ us hl => match us, hl with | [_, _], _ => rfl) (fun vs H Q E h => ?_) (fun f cdv A outer s H vs Q E hr h => ?_)
  · obtain ⟨a, b, rfl, _⟩ := h
    rfl
  · obtain ⟨a, b, rfl, k⟩ := h
    refine ⟨_, (pss_cons (ps_set (i := 2) sc_mix.nd rfl (by walk_at "lv") (pe_op op_mod (pe_callTy call_int1 (by rfl) nI boot_int (pa_cons (pe_op op_add (pe_op op_add (pe_op op_mul (pv 0) pe_int) (pe_op op_mul (pv 1) pe_int)) pe_int) pa_nil)) pe_int))
        (pss_cons (ps_set (i := 3) sc_mix.nd rfl (by walk_at "lv") (pe_op op_mod (pe_callTy call_int1 (by rfl) nI boot_int (pa_cons (pe_op op_add (pe_op op_add (pe_op op_mul (pv 2) (pv 2)) (pe_op op_mul (pe_op op_fdiv (pv 2) pe_int) pe_int)) (pe_op op_mul (pv 1) pe_int)) pa_nil)) pe_int))
        (pss_one (ps_ret (pe_op op_fdiv (pe_op op_mod (pe_callTy call_int1 (by rfl) nI boot_int (pa_cons (pe_op op_add (pe_op op_fdiv (pe_op op_mul (pv 3) (pv 3)) pe_int) (pv 2)) pa_nil)) pe_int) pe_int))))), ?_⟩
    refine ⟨_, rfl, _, _, rfl, rfl, .inr ⟨by decide, by decide⟩, _, rfl, _, _, rfl, rfl, .inr ⟨by decide, by decide⟩, _, _, rfl, rfl, _, _, rfl, rfl, .inl ⟨_, rfl, _, _, rfl, rfl, (by show (0 : Int) < _; decide), ?_⟩⟩
    refine ⟨_, rfl, _, rfl, _, _, rfl, rfl, .inl (mod_lt31 (by decide) (by decide)), _, rfl, _, _, rfl, rfl, ⟨by decide, by decide⟩, _, _, rfl, rfl, .inr ⟨by decide, by decide⟩, _, _, rfl, rfl, _, rfl, _, _, rfl, rfl, .inr ⟨by decide, by decide⟩, _, _, rfl, rfl, .inl ⟨_, rfl, _, _, rfl, rfl, (by show (0 : Int) < _; decide), ?_⟩⟩
    refine ⟨_, rfl, _, rfl, _, _, rfl, rfl, .inl (mod_lt31 (by decide) (by decide)), _, _, rfl, rfl, ⟨by decide, by decide⟩, _, rfl, _, _, rfl, rfl, .inl ⟨_, rfl, _, _, rfl, rfl, (by show (0 : Int) < _; decide), _, _, rfl, rfl, ⟨by decide, by decide⟩, k _⟩⟩
/-! ### _law_hand -/
def spHand (K : PySem.W.Frag) : Sp := fun vs H Q _ => ∃ (a : Addr) (ns : List Int), vs = [.ref a] ∧ SqL K H a (ns.map V.int) ∧ ns.length ≤ 63 ∧ ∀ p c H', H p = none → H c = none → HandC H' p c → Same H H' → Q (.ref p) H'
abbrev s_hand : Stmt := top 39
abbrev N_hand : List Str := ["_law_script", "_law_total", "_law_at", "_law_cell"]
theorem sc_hand : FnScope N_hand ["_law_script"] (defScope s_hand) := ⟨rfl, rfl, rfl, by decide +kernel, rfl, by decide +kernel, by decide +kernel⟩
theorem int_at {ns : List Int} {i : Nat} {x : V} (h : (ns.map V.int)[i]? = some x) : ∃ z, ns[i]? = some z ∧ x = .int z := by
  rw [List.getElem?_map] at h
  cases e : ns[i]? with
  | none =>
    rw [e] at h
    cases h
  | some z =>
    rw [e] at h
    exact ⟨z, rfl, (Option.some.inj h).symm⟩
theorem kp_hand (F : At K mg "_law_hand" s_hand) (nI : mg "int" = none) (nE : mg "enumerate" = none) (nA : mg "abs" = none) : Keeps CX0 P w K mg base "_law_hand" 1 ["_law_script"] (spHand K) := by
  refine keeps_of F sc_hand (fun _ _ _ _ _ _ us hl => match us, hl with | [_], _ => rfl) (fun vs H Q E h => ?_) (fun f cdv A outer s H vs Q E hr h => ?_)
  · obtain ⟨a, ns, rfl, _⟩ := h
    rfl
  · obtain ⟨a, ns, rfl, hS, hlen, k⟩ := h
    refine ⟨_, (pss_cons (ps_set (i := 1) sc_hand.nd rfl (by walk_at "lv") pe_int)
        (pss_cons (ps_for PassesOwn.never rfl (pi_enum (by rfl) nE (pa_cons (pv 0) pa_nil)) (pg_tup (by rfl) (pgs_cons (pg_name (i := 2) sc_hand.nd rfl (by walk_at "lv")) (pgs_cons (pg_name (i := 3) sc_hand.nd rfl (by walk_at "lv")) pgs_nil))) (pss_one (ps_set (i := 1) sc_hand.nd rfl (by walk_at "lv") (pe_op op_mod (pe_callTy call_int1 (by rfl) nI boot_int (pa_cons (pe_op op_add (pe_op op_mul (pv 1) pe_int) (pe_op op_mul (pe_callTy call_int1 (by rfl) nI boot_int (pa_cons (pv 3) pa_nil)) (pe_op op_add (pe_op op_mul pe_int (pv 2)) pe_int))) pa_nil)) pe_int))))
        (pss_one (ps_ret (pe_lst (pa_cons (pe_lc (own := [("_law_cell", 3)]) (g := gName 3) (tt := tYes) rfl sc_hand.nd (pi_list (pv 0)) (blkOk_by (N := N_hand) (sc := defScope s_hand) (by decide +kernel)) (fun _ _ _ _ _ => (pg_name (i := 3) sc_hand.nd rfl (by walk_at "lv"))) (fun _ _ _ _ _ => pts_nil) (fun _ _ _ _ _ => (pe_callB call_abs (by rfl) nA boot_abs (pa_cons (pe_callTy call_int1 (by rfl) nI boot_int (pa_cons (pv 3) pa_nil)) pa_nil)))) (pa_cons pe_int (pa_cons pe_int (pa_cons (pv 1) pa_nil))))))))), ?_⟩
    refine ⟨_, rfl, a, _, rfl, hS, for_it walk_enum (fun i σ H2 => ∃ (t : Int) (x y : Option V), σ = [some (.ref a), some (.int t), x, y] ∧ Same H H2) ⟨17, none, none, rfl, Same.refl H⟩ (fun i σ H2 _ ⟨_, _, _, _, s2⟩ => s2.seq hS) ?_ ?_⟩
    · rintro i v σ H2 H3 hi ⟨t, x, y, rfl, s2⟩ ⟨T, u, z, rfl, nT, rfl, e1, e2⟩
      obtain ⟨n, hn, rfl⟩ := int_at e2
      cases Option.some.inj e1
      have hi63 : i < 63 := by
        rw [List.length_map] at hi
        omega
      have s3 : Same H (upd H2 T (.tup [V.int (i : Nat), V.int n])) := fun b o e => by
        rw [upd_ne (ne_of_none (s2 b o e) nT)]
        exact s2 b o e
      refine ⟨T, _, rfl, SqT.of upd_same, rfl, _, _, rfl, _, _, rfl, rfl, ?_⟩
      refine ⟨_, rfl, _, _, rfl, rfl, .inr ⟨by decide, by decide⟩, _, rfl, .inl ⟨_, rfl, _, rfl, _, _, rfl, rfl, .inl ⟨by decide, by decide⟩, _, _, rfl, rfl, _, _, rfl, rfl, .inr ⟨by omega, by omega⟩, _, _, rfl, rfl, .inl ⟨_, rfl, _, _, rfl, rfl, (by show (0 : Int) < _; decide), ?_⟩⟩⟩
      exact ⟨_, _, _, rfl, s3⟩
    · rintro σ H2 ⟨t, x, y, rfl, s2⟩
      refine ⟨_, rfl, a, rfl, ⟨_, s2.seq hS⟩, fun D hD => ?_⟩
      refine lc_list (K := K) (a := a) (xs := ns.map V.int) (fun i H3 => ∃ cs : List Int, H3 D = some (.lst (cs.map V.int)) ∧ cs.length = i ∧ Same H2 H3) ⟨[], upd_same, rfl, fun b o e => by rw [upd_ne (ne_of_none e hD)]; exact e⟩ (fun i H3 _ ⟨_, _, _, s3⟩ => s3.seq (s2.seq hS)) ?_ ?_
      · rintro i v H3 hi ⟨cs, hc, hl, s3⟩
        obtain ⟨n, hn, rfl⟩ := int_at hi
        have hi63 : i < 63 := by
          have q := (List.getElem?_eq_some_iff.mp hn).1
          omega
        refine ⟨rfl, _, rfl, .inl ⟨_, rfl, _, rfl, cs.map V.int, hc, smallB (by rw [List.length_map]; omega), cs ++ [if n < 0 then -n else n], ?_, by rw [List.length_append, hl]; rfl, ?_⟩⟩
        · rw [List.map_append]
          exact upd_same
        · intro b o e
          rw [upd_ne (ne_of_none e hD)]
          exact s3 b o e
      · rintro H3 ⟨cs, hc, hl, s3⟩
        refine ⟨_, rfl, (by show 4 ≤ sizeLine; decide), fun p hp => ?_⟩
        refine k p D _ ((s2.trans s3).free hp) (s2.free hD) ⟨cs, 0, 0, t, upd_same, ?_, Int.le_refl 0⟩ fun b o e => ?_
        · rw [upd_ne (ne_of_none hc hp)]
          exact hc
        · have e2 := s3 b o (s2 b o e)
          rw [upd_ne (ne_of_none e2 hp)]
          exact e2
/-! ### _law_draw -/
def spDraw : Sp := fun vs H Q _ => ∃ (p c : Addr) (m : Int), vs = [.ref p, .int m] ∧ HandC H p c ∧ (0 < m ∧ m.natAbs.log2 < 9000) ∧ ∀ (r : Int) H', 0 ≤ r → r < m → HandC H' p c → But p H H' → Q (.int r) H'
abbrev s_draw : Stmt := top 40
abbrev N_draw : List Str := ["_law_hand_here", "_law_many", "_law_cell", "_law_rest"]
theorem sc_draw : FnScope N_draw ["_law_hand_here", "_law_many"] (defScope s_draw) := ⟨rfl, rfl, rfl, by decide +kernel, rfl, by decide +kernel, by decide +kernel⟩
theorem atI_of {α : Type} {xs : List α} {i : Int} (h0 : 0 ≤ i) (h1 : i < xs.length) : ∃ v, xs[i.toNat]? = some v ∧ atI xs i = some v := by
  have e : xs[i.toNat]? = some (xs[i.toNat]'(by omega)) := List.getElem?_eq_getElem _
  have e2 : ((i.toNat : Nat) : Int) = i := by omega
  refine ⟨_, e, ?_⟩
  have q := atI_nat e
  rw [e2] at q
  exact q
theorem But.upd {p : Addr} {H H' : Hp} {o : HO} (h : But p H H') : But p H (upd H' p o) := fun b u hb e => by
  rw [upd_ne hb]
  exact h b u hb e
theorem But.refl (p : Addr) (H : Hp) : But p H H := fun _ _ _ e => e
theorem kp_draw (F : At K mg "_law_draw" s_draw) (GM : Keeps CX0 P w K mg base "_law_mix" 1 ["_law_number", "_law_turn"] spMix) (nI : mg "int" = none) (nL : mg "len" = none) : Keeps CX0 P w K mg base "_law_draw" 2 ["_law_hand_here", "_law_many"] spDraw := by
  refine keeps_of F sc_draw (fun _ _ _ _ _ _ us hl => match us, hl with | [_, _], _ => rfl) (fun vs H Q E h => ?_) (fun f cdv A outer s H vs Q E hr h => ?_)
  · obtain ⟨p, c, m, rfl, _⟩ := h
    rfl
  · obtain ⟨p, c, m, rfl, ⟨cs, i, rest, tot, hp, hc, hi⟩, ⟨hm, hm2⟩, k⟩ := h
    have cp : c ≠ p := ne_of hc hp (by
      intro z
      cases cs with
      | nil => cases z
      | cons y ys => cases z)
    -- what stands behind the first if
    obtain ⟨tl, dtl, tail⟩ : ∃ tl, PSs (cxOf CX0 P w K mg base N_draw "_law_draw" (defScope s_draw) f cdv A outer s H E).nox ((defBody s_draw).drop 1) tl ∧ ∀ (H1 : Hp) (i1 r1 : Int) (x : Option V), 0 ≤ i1 → H1 p = some (.lst [.ref c, .int i1, .int r1, .int tot]) → H1 c = some (.lst (cs.map V.int)) → But p H H1 →
        tl { nx := fun _ H' => Q .non H', rt := Q } [some (V.ref p), some (V.int m), x, none] H1 := by
      refine ⟨_, (pss_cons (ps_if (pt_cmpR op_gt (pe_ix ix_list (pv 0) pe_int (fun _ _ => rfl)) pe_int (nomark _)) (pss_cons (ps_set (i := 3) sc_draw.nd rfl (by walk_at "lv") (pe_ix ix_list (pv 0) pe_int (fun _ _ => rfl)))
        (pss_cons (ps_asg (pe_op op_fdivW (pv 3) (pv 1)) (pg_sub (pv 0) pe_int set_list))
        (pss_one (ps_ret (pe_op op_mod (pe_callTy call_int1 (by rfl) nI boot_int (pa_cons (pv 3) pa_nil)) (pv 1)))))) pss_nil)
        (pss_cons (ps_asg (pe_op op_mod (pe_callTy call_int1 (by rfl) nI boot_int (pa_cons (pe_op op_add (pe_ix ix_list (pv 0) pe_int (fun _ _ => rfl)) pe_int) pa_nil)) pe_int) (pg_sub (pv 0) pe_int set_list))
        (pss_one (ps_ret (pe_op op_mod (pe_callTy call_int1 (by rfl) nI boot_int (pa_cons (pe_k GM hr (by rfl) pass0 (pa_cons (pe_ix ix_list (pv 0) pe_int (fun _ _ => rfl)) (pa_cons (pe_ix ix_list (pv 0) pe_int (fun _ _ => rfl)) pa_nil))) pa_nil)) (pv 1)))))), ?_⟩
      intro H1 i1 r1 x h0 h1 h2 b1
      refine ⟨_, rfl, p, _, _, _, rfl, rfl, SqL.of h1, rfl, _, _, rfl, rfl, _, rfl, ?_⟩
      refine ite2 (fun _ => ?_) (fun _ => ?_)
      · refine ⟨_, rfl, p, _, _, _, rfl, rfl, SqL.of h1, rfl, _, rfl, _, rfl, _, _, rfl, rfl, ⟨hm, hm2⟩, _, rfl, p, _, _, 2, rfl, rfl, h1, rfl, ?_⟩
        refine ⟨_, rfl, .inl ⟨_, rfl, _, rfl, _, _, rfl, rfl, hm, ?_⟩⟩
        exact k _ _ (Int.emod_nonneg _ (by omega)) (Int.emod_lt_of_pos _ hm) ⟨cs, i1, _, _, upd_same, by rw [upd_ne cp]; exact h2, h0⟩ b1.upd
      · refine ⟨_, rfl, p, _, _, _, rfl, rfl, SqL.of h1, rfl, _, _, rfl, rfl, .inl ⟨_, rfl, _, _, rfl, rfl, (by show (0 : Int) < _; decide), _, rfl, p, _, _, 3, rfl, rfl, h1, rfl, ?_⟩⟩
        refine ⟨_, rfl, p, _, _, _, rfl, rfl, SqL.of upd_same, rfl, _, rfl, p, _, _, _, rfl, rfl, SqL.of upd_same, rfl, _, _, rfl, fun r => .inl ⟨_, rfl, _, rfl, _, _, rfl, rfl, hm, ?_⟩⟩
        exact k _ _ (Int.emod_nonneg _ (by omega)) (Int.emod_lt_of_pos _ hm) ⟨cs, i1, _, _, upd_same, by rw [upd_ne cp]; exact h2, h0⟩ b1.upd
    refine ⟨_, pss_cons (ps_if (PW.pt (pw_and (pt_cmpR op_eq (pe_ix ix_list (pv 0) pe_int (fun _ _ => rfl)) pe_int (nomark _)) (pw_and1 (pt_cmpR op_lt (pe_ix ix_list (pv 0) pe_int (fun _ _ => rfl)) (pe_callB call_len_seq (by rfl) nL boot_len (pa_cons (pe_ix ix_list (pv 0) pe_int (fun _ _ => rfl)) pa_nil)) (nomark _))))) (pss_cons (ps_set (i := 2) sc_draw.nd rfl (by walk_at "lv") (pe_ix ix_list (pe_ix ix_list (pv 0) pe_int (fun _ _ => rfl)) (pe_ix ix_list (pv 0) pe_int (fun _ _ => rfl)) (fun _ _ => rfl)))
        (pss_cons (ps_asg (pe_op op_add (pe_ix ix_list (pv 0) pe_int (fun _ _ => rfl)) pe_int) (pg_sub (pv 0) pe_int set_list))
        (pss_cons (ps_if (pt_cmpR op_lt (pv 2) (pe_op op_pow pe_int pe_int) (nomark _)) (pss_one (ps_ret (pe_op op_mod (pe_callTy call_int1 (by rfl) nI boot_int (pa_cons (pe_k GM hr (by rfl) pass0 (pa_cons (pe_op op_mod (pe_callTy call_int1 (by rfl) nI boot_int (pa_cons (pv 2) pa_nil)) pe_int) (pa_cons (pe_ix ix_list (pv 0) pe_int (fun _ _ => rfl)) pa_nil))) pa_nil)) (pv 1)))) pss_nil)
        (pss_one (ps_asg (pv 2) (pg_sub (pv 0) pe_int set_list)))))) pss_nil) dtl, ?_⟩
    refine ⟨_, rfl, p, _, _, _, rfl, rfl, SqL.of hp, rfl, rfl, _, rfl, ?_⟩
    refine ite2 (fun _ => ?_) (fun _ => ?_)
    · refine ⟨_, rfl, p, _, _, _, rfl, rfl, SqL.of hp, rfl, _, rfl, p, _, _, _, rfl, rfl, SqL.of hp, rfl, c, _, rfl, .inl (SqL.of hc), _, _, rfl, rfl, _, rfl, ?_⟩
      refine ite2 (fun hlt => ?_) (fun _ => ?_)
      · have hlt := of_decide_eq_true hlt
        rw [List.length_map] at hlt
        obtain ⟨v, ev, eat⟩ := atI_of (xs := cs.map V.int) hi (by rw [List.length_map]; exact hlt)
        obtain ⟨z, _, rfl⟩ := int_at ev
        refine ⟨_, rfl, p, _, _, _, rfl, rfl, SqL.of hp, rfl, _, rfl, p, _, _, _, rfl, rfl, SqL.of hp, rfl, c, _, _, _, rfl, rfl, SqL.of hc, eat, ?_⟩
        refine ⟨_, rfl, p, _, _, _, rfl, rfl, SqL.of hp, rfl, _, _, rfl, rfl, _, rfl, p, _, _, 1, rfl, rfl, hp, rfl, ?_⟩
        refine ⟨_, rfl, _, _, rfl, rfl, ⟨by decide, by decide, by decide⟩, _, _, rfl, rfl, _, rfl, ?_⟩
        refine ite2 (fun _ => ?_) (fun _ => ?_)
        · refine ⟨_, rfl, .inl ⟨_, rfl, _, _, rfl, rfl, (by show (0 : Int) < _; decide), _, rfl, p, _, _, _, rfl, rfl, SqL.of upd_same, rfl, _, _, rfl, fun r => .inl ⟨_, rfl, _, rfl, _, _, rfl, rfl, hm, ?_⟩⟩⟩
          exact k _ _ (Int.emod_nonneg _ (by omega)) (Int.emod_lt_of_pos _ hm) ⟨cs, _, _, _, upd_same, by rw [upd_ne cp]; exact hc, by omega⟩ (But.refl p H).upd
        · refine ⟨_, rfl, _, rfl, p, _, _, 2, rfl, rfl, upd_same, rfl, ?_⟩
          exact tail _ (i + 1) z _ (by omega) upd_same (by rw [upd_ne cp, upd_ne cp]; exact hc) (But.refl p H).upd.upd
      · exact tail _ i rest _ hi hp hc (But.refl p H)
    · exact tail _ i rest _ hi hp hc (But.refl p H)
end
end My
set_option Elab.async false
set_option linter.all false
set_option maxRecDepth 100000
set_option maxHeartbeats 8000000
namespace My
open PySem PySem.Spec PyProof.Rows L2
local macro_rules | `(tactic| walk_at "lv") => `(tactic| first | exact Or.inl rfl | exact Or.inr rfl)
/-! ### range with bounds of any size -/
section
variable {X : Cx} {tg : Expr}
/-- the long iterator, told by any J that yields lo, lo + c, .. -/
theorem turn_long {P : Program} {w : World} {K : PySem.W.Frag} {J : It} (it : Addr) (lo c : Int) (n : Nat) (hgo : ∀ i H, J.go i H → i < n) (hst : ∀ i H, J.stop i H → n ≤ i) (hy : ∀ (i : Nat) H, J.yld i H (.int (lo + (i : Nat) * c)) H) :
    Turn P w K tg J [it] it (fun i h => IsLongIter h it (lo + (i : Nat) * c) ((n : Int) - (i : Nat)) c) where
  mem := List.mem_singleton.mpr rfl
  obj := fun i h st b hb => by
    cases List.mem_singleton.mp hb
    refine ⟨_, st, fun v z => ?_⟩
    cases (show Data.fields _ = Data.cell v from z)
  keep := fun i h h' st k => k it (List.mem_singleton.mpr rfl) _ st
  item := by
    intro Y e1 e2 e3 hc i pns s σ H E I hf st hg
    have hi := hgo i H hg
    subst e1 e2 e3
    obtain ⟨f0, f1, f2, f3, f4, f5⟩ := hf it (List.mem_singleton.mpr rfl)
    refine (Walks.longrange (prog := Y.prog) (w := Y.w) (I.ok.hd hc) it lo c n).item i s _ _ hi st fun v h' tk hv st' kk => ?_
    obtain ⟨t, rfl⟩ := hv
    have I1 : Inv Y pns σ H { s with heap := h', toks := tk } := I.turned (fun b o hb e => kk b o (fun z => hb (List.mem_singleton.mp z)) e) f0 f1 f3 f4 f5
    exact ⟨_, rfl, go_of (s := { s with heap := h', toks := tk }) (n := "longrange_iterator") st' rfl rfl (by decide) ⟨.int (lo + (i : Nat) * c), H, I1, ⟨t, rfl⟩, hy i H, st', fun b hb => (hf b hb).1⟩⟩
  done := by
    intro Y e1 e2 e3 hc i pns s σ H E I hf st hg
    have hi := hst i H hg
    subst e1 e2 e3
    obtain ⟨f0, f1, f2, f3, f4, f5⟩ := hf it (List.mem_singleton.mpr rfl)
    exact wpAny_pyNext_long_end (I.ok.hd hc) st (by omega) fun h' eb => ⟨rfl, I.turned (t' := s.toks) (fun b o hb e => eb b o hb e) f0 f1 f3 f4 f5⟩
  self := fun A i s Q E st h => wpAny_pyIter_longiter st h
/-- range(i, j), i and j of any size -/
def iRngL (ta : TA) : TI := fun σ H R => ta σ H fun vs H1 => ∃ i j : Int, vs = [.int i, .int j] ∧ R (Itr i (j - i).toNat) H1
theorem pi_rangeL {a b : Expr} {ta : TA} {p pos : Pos} (hg : Gl X "range") (hm : X.mg "range" = none) (ha : PA X [a, b] ta) (hs : starEach [a, b] X.env = [(false, eval a X.env), (false, eval b X.env)] := by rfl) (hs2 : starEach [b] X.env = [(false, eval b X.env)] := by rfl) :
    PI X tg (.Call (.Name "range" p) [a, b] [] pos) (iRngL ta) := by
  refine ⟨fun pns s σ H R I h => Call_ (ld_blt I hg hm boot_range (PyProof.Rows.callWith_type1 (thn (ha.run pos pns s σ H _ I h) fun us s1 ⟨vs, H1, I1, r1, q1⟩ => ?_) (by rw [hs, hs2]) (by rw [hs2]; rfl)))⟩
  obtain ⟨i, j, rfl, q⟩ := q1
  obtain ⟨u, v, rfl, ru, rv⟩ : ∃ u v, us = [u, v] ∧ RelV (.int i) u ∧ RelV (.int j) v := by
    cases r1 with | cons r rr => cases rr with | cons r' rr => cases rr; exact ⟨_, _, rfl, r, r'⟩
  obtain ⟨t, rfl⟩ := ru
  obtain ⟨t', rfl⟩ := rv
  refine call_range_2 ?_
  by_cases sm : Builtin.Range.small i j 1 = true
  · have I2 : Inv X pns σ H1 { s1 with heap := s1.heap.push { cls := .type "range", data := .fields #[.int i t, .int j t', .int 1 s1.toks] }, toks := s1.toks + 1 } := I1.kept fun b o e => Heap.get?_push_of_some _ e
    refine wpAny_pyIter_range (IsRange.new ..) sm (pi_one (tk := s1.toks + 1) I2 _ (turn_range _ i (j - i).toNat) ?_ q)
    have e1 : i + ((0 : Nat) : Int) * 1 = i := by omega
    have e2 : (((j - i).toNat : Nat) : Int) - ((0 : Nat) : Int) = Builtin.Range.rangeSize i j 1 := by rw [rangeSize_one]; split <;> omega
    show IsRangeIter _ _ (i + ((0 : Nat) : Int) * 1) _ 1; rw [e1, e2]; exact Heap.get?_push_size _ rfl
  · have sm := Bool.eq_false_iff.mpr sm
    have I2 : Inv X pns σ H1 { s1 with heap := s1.heap.push { cls := .type "range", data := .fields #[.int i t, .int j t', .int 1 s1.toks] }, toks := s1.toks + 1 } := I1.kept fun b o e => Heap.get?_push_of_some _ e
    refine wpAny_pyIter_longrange (IsRange.new ..) sm (pi_one (tk := s1.toks + 1) I2 _ (turn_long (J := Itr i (j - i).toNat) _ i 1 (j - i).toNat (fun _ _ z => z) (fun _ _ z => z) (fun k H => ⟨rfl, congrArg V.int (by omega)⟩)) ?_ q)
    have e1 : i + ((0 : Nat) : Int) * 1 = i := by omega
    have e2 : (((j - i).toNat : Nat) : Int) - ((0 : Nat) : Int) = Builtin.Range.rangeSize i j 1 := by rw [rangeSize_one]; split <;> omega
    show IsLongIter _ _ (i + ((0 : Nat) : Int) * 1) _ 1; rw [e1, e2]; exact Heap.get?_push_size _ rfl
/-- range(i, j, -1), i and j of any size -/
def iRngD (ta : TA) : TI := fun σ H R => ta σ H fun vs H1 => ∃ i j : Int, vs = [.int i, .int j, .int (-1)] ∧ R (Itc i (-1) (i - j).toNat) H1
theorem pi_rangeD {a b c : Expr} {ta : TA} {p pos : Pos} (hg : Gl X "range") (hm : X.mg "range" = none) (ha : PA X [a, b, c] ta)
    (hs : starEach [a, b, c] X.env = (false, eval a X.env) :: starEach [b, c] X.env := by rfl) (hpl : (backTo pos (starEach [b, c] X.env)).any (·.1) = false := by rfl) : PI X tg (.Call (.Name "range" p) [a, b, c] [] pos) (iRngD ta) := by
  refine ⟨fun pns s σ H R I h => Call_ (ld_blt I hg hm boot_range (PyProof.Rows.callWith_type1 (thn (ha.run pos pns s σ H _ I h) fun us s1 ⟨vs, H1, I1, r1, q1⟩ => ?_) hs hpl))⟩
  obtain ⟨i, j, rfl, q⟩ := q1
  obtain ⟨u, v, x, rfl, ru, rv, rx⟩ : ∃ u v x, us = [u, v, x] ∧ RelV (.int i) u ∧ RelV (.int j) v ∧ RelV (.int (-1)) x := by
    cases r1 with | cons r rr => cases rr with | cons r' rr => cases rr with | cons r2 rr => cases rr; exact ⟨_, _, _, rfl, r, r', r2⟩
  obtain ⟨t, rfl⟩ := ru
  obtain ⟨t', rfl⟩ := rv
  obtain ⟨t2, rfl⟩ := rx
  refine call_range_3 (by decide) ?_ (.inl (PyProof.noPylong_small (by decide)))
  have e1 : i + ((0 : Nat) : Int) * (-1) = i := by omega
  have e2 : (((i - j).toNat : Nat) : Int) - ((0 : Nat) : Int) = Builtin.Range.rangeSize i j (-1) := by rw [PySem.W.rangeSize_downNat i j]; omega
  have I2 : Inv X pns σ H1 { s1 with heap := s1.heap.push { cls := .type "range", data := .fields #[.int i t, .int j t', .int (-1) t2] } } := I1.kept (t' := s1.toks) fun b o e => Heap.get?_push_of_some _ e
  by_cases sm : Builtin.Range.small i j (-1) = true
  · refine wpAny_pyIter_range (IsRange.new ..) sm (pi_one (tk := s1.toks) I2 _ (turn_rangeC _ i (-1) (i - j).toNat) ?_ q)
    show IsRangeIter _ _ (i + ((0 : Nat) : Int) * (-1)) _ (-1); rw [e1, e2]; exact Heap.get?_push_size _ rfl
  · refine wpAny_pyIter_longrange (IsRange.new ..) (Bool.eq_false_iff.mpr sm) (pi_one (tk := s1.toks) I2 _ (turn_long (J := Itc i (-1) (i - j).toNat) _ i (-1) (i - j).toNat (fun _ _ z => z) (fun _ _ z => z) (fun k H => ⟨rfl, rfl⟩)) ?_ q)
    show IsLongIter _ _ (i + ((0 : Nat) : Int) * (-1)) _ (-1); rw [e1, e2]; exact Heap.get?_push_size _ rfl
end
end My
set_option Elab.async false
set_option linter.all false
set_option maxRecDepth 100000
set_option maxHeartbeats 8000000
namespace My
open PySem PySem.Spec PyProof.Rows L2
local macro_rules | `(tactic| walk_at "lv") => `(tactic| first | exact Or.inl rfl | exact Or.inr rfl)
/-- the names of built-ins that the text does not take for itself -/
structure Nb (mg : Str → Option Value) : Prop where
  int : mg "int" = none
  bool : mg "bool" = none
  str : mg "str" = none
  list : mg "list" = none
  tuple : mg "tuple" = none
  isinstance : mg "isinstance" = none
  enumerate : mg "enumerate" = none
  abs : mg "abs" = none
  len : mg "len" = none
  range : mg "range" = none
  min : mg "min" = none
  all : mg "all" = none
  any : mg "any" = none
  verr : mg "ValueError" = none
section
variable {P : Program} {w : World} {K : PySem.W.Frag} {mg : Str → Option Value} {base : Heap}
/-! ### is_whole -/
def spWhole : Sp := fun vs H Q _ => ∃ a : Int, vs = [.int a] ∧ Q (.bl true) H
abbrev s_whole : Stmt := top 3
abbrev N_whole : List Str := ["thing"]
theorem sc_whole : FnScope N_whole ["thing"] (defScope s_whole) := ⟨rfl, rfl, rfl, by decide +kernel, rfl, by decide +kernel, by decide +kernel⟩
theorem kp_whole (F : At K mg "is_whole" s_whole) (N : Nb mg) : Keeps CX0 P w K mg base "is_whole" 1 ["thing"] spWhole := by
  refine keeps_of F sc_whole (fun _ _ _ _ _ _ us hl => match us, hl with | [_], _ => rfl) (fun vs H Q E h => ?_) (fun f cdv A outer s H vs Q E hr h => ?_)
  · obtain ⟨a, rfl, _⟩ := h
    rfl
  · obtain ⟨a, rfl, k⟩ := h
    refine ⟨_, (pss_one (ps_ret (pe_and (pe_callB call_isi (by rfl) N.isinstance boot_isinstance (pa_cons (pv 0) (pa_cons (pe_bltn (v := .ty "int") (by rfl) N.int (by decide +kernel) rfl) pa_nil))) (pe_one (pe_not (pe_callB call_isi (by rfl) N.isinstance boot_isinstance (pa_cons (pv 0) (pa_cons (pe_bltn (v := .ty "bool") (by rfl) N.bool (by decide +kernel) rfl) pa_nil)))))))), ?_⟩
    refine ⟨_, rfl, .int a, .ty "int", _, _, true, rfl, .ty "int", .base (.int a), kit_ty (by decide +kernel), _, rfl, ?_⟩
    exact ⟨_, rfl, .int a, .ty "bool", _, _, false, rfl, .ty "bool", .base (.int a), kit_ty (by decide +kernel), _, rfl, k⟩
/-! ### is_whole_from -/
def spWholeF : Sp := fun vs H Q _ => ∃ a lo hi : Int, vs = [.int a, .int lo, .int hi] ∧ Q (.bl (decide (lo ≤ a) && decide (a ≤ hi))) H
abbrev s_wholeF : Stmt := top 4
abbrev N_wholeF : List Str := ["thing", "low", "high"]
theorem sc_wholeF : FnScope N_wholeF ["thing", "low", "high"] (defScope s_wholeF) := ⟨rfl, rfl, rfl, by decide +kernel, rfl, by decide +kernel, by decide +kernel⟩
theorem kp_wholeF (F : At K mg "is_whole_from" s_wholeF) (G : Keeps CX0 P w K mg base "is_whole" 1 ["thing"] spWhole) : Keeps CX0 P w K mg base "is_whole_from" 2 ["thing", "low", "high"] spWholeF := by
  refine keeps_of F sc_wholeF (fun _ _ _ _ _ _ us hl => match us, hl with | [_, _, _], _ => rfl) (fun vs H Q E h => ?_) (fun f cdv A outer s H vs Q E hr h => ?_)
  · obtain ⟨a, lo, hi, rfl, _⟩ := h
    rfl
  · obtain ⟨a, lo, hi, rfl, k⟩ := h
    refine ⟨_, (pss_one (ps_ret (pe_and (pe_k G hr (by rfl) pass0 (pa_cons (pv 0) pa_nil)) (pe_one (pe_chain op_le op_le (pv 1) (pv 0) (pv 2)))))), ?_⟩
    refine ⟨_, rfl, a, rfl, _, rfl, ?_⟩
    refine ⟨_, rfl, _, rfl, _, _, rfl, rfl, _, rfl, ?_⟩
    by_cases h1 : lo ≤ a
    · rw [decide_eq_true h1] at k ⊢
      exact ⟨_, rfl, _, _, rfl, rfl, k⟩
    · rw [decide_eq_false h1] at k ⊢
      exact k
end
end My
set_option Elab.async false
set_option linter.all false
set_option maxRecDepth 100000
set_option maxHeartbeats 8000000
namespace My
open PySem PySem.Spec PyProof.Rows L2
local macro_rules | `(tactic| walk_at "lv") => `(tactic| first | exact Or.inl rfl | exact Or.inr rfl)
/-- a list or a tuple -/
def SqA (H : Hp) (a : Addr) (xs : List V) : Prop := H a = some (.lst xs) ∨ H a = some (.tup xs)
theorem SqA.same {H H' : Hp} {a : Addr} {xs : List V} (s : Same H H') (h : SqA H a xs) : SqA H' a xs := h.elim (fun h => .inl (s _ _ h)) fun h => .inr (s _ _ h)
theorem SqA.keep {H H' : Hp} {a : Addr} {xs : List V} (s : Same H H') (h : SqA H a xs) : H' a = H a := h.elim (fun h => by rw [s _ _ h, h]) fun h => by rw [s _ _ h, h]
theorem same_new {H H1 : Hp} {p : Addr} {o : HO} (s : Same H H1) (hp : H1 p = none) : Same H (upd H1 p o) := fun b u e => by
  rw [upd_ne (ne_of_none (s _ _ e) hp)]
  exact s _ _ e
/-- a walk of a name's list or tuple -/
def iSeqV (i : Nat) : TI := fun σ H R => ∃ a xs, σ[i]? = some (some (.ref a)) ∧ SqA H a xs ∧ ∀ J, Walk J xs.length (fun H' => H' a = H a) (YAt xs) → R J H
theorem pi_seqV {X : Cx} {tg l : Expr} {i : Nat} (h : PE X l (tVar i)) : PI X tg l (iSeqV i) := ⟨fun pins s σ H R I q => by
  obtain ⟨a, xs, e, hs, k⟩ := q
  rcases hs with hs | hs
  · exact (pi_list h).run pins s σ H R I ⟨.ref a, e, a, rfl, ⟨xs, SqL.of hs⟩, k _ (walk_list.mono (fun H' e => SqL.of (e.trans hs)) fun _ _ _ _ _ _ y => y)⟩
  · exact (pi_tup h).run pins s σ H R I ⟨.ref a, e, a, rfl, ⟨xs, SqT.of hs⟩, k _ (walk_tup.mono (fun H' e => SqT.of (e.trans hs)) fun _ _ _ _ _ _ y => y)⟩⟩
section
variable {P : Program} {w : World} {K : PySem.W.Frag} {mg : Str → Option Value} {base : Heap}
/-! ### is_sequence -/
def spSeq : Sp := fun vs H Q _ => ∃ a xs, vs = [.ref a] ∧ SqA H a xs ∧ ∀ H', Same H H' → Q (.bl true) H'
abbrev s_seq : Stmt := top 5
abbrev N_seq : List Str := ["thing"]
theorem sc_seq : FnScope N_seq ["thing"] (defScope s_seq) := ⟨rfl, rfl, rfl, by decide +kernel, rfl, by decide +kernel, by decide +kernel⟩
theorem kp_seq (F : At K mg "is_sequence" s_seq) (N : Nb mg) : Keeps CX0 P w K mg base "is_sequence" 1 ["thing"] spSeq := by
  refine keeps_of F sc_seq (fun _ _ _ _ _ _ us hl => match us, hl with | [_], _ => rfl) (fun vs H Q E h => ?_) (fun f cdv A outer s H vs Q E hr h => ?_)
  · obtain ⟨a, xs, rfl, _⟩ := h
    rfl
  · obtain ⟨a, xs, rfl, hs, k⟩ := h
    refine ⟨_, (pss_one (ps_ret (pe_callB call_isiT (by rfl) N.isinstance boot_isinstance (pa_cons (pv 0) (pa_cons (pe_tup (pa_cons (pe_bltn (v := .ty "list") (by rfl) N.list (by decide +kernel) rfl) (pa_cons (pe_bltn (v := .ty "tuple") (by rfl) N.tuple (by decide +kernel) rfl) pa_nil))) pa_nil))))), ?_⟩
    refine ⟨_, rfl, ⟨(by show 2 ≤ sizeLine; decide), fun t ht => ?_⟩⟩
    have s1 := same_new (o := .tup [V.ty "list", V.ty "tuple"]) (Same.refl H) ht
    rcases hs with hs | hs
    · exact ⟨.ref a, t, [.ty "list", .ty "tuple"], _, _, true, rfl, upd_same, .cons (.ty _) (.cons (.ty _) .nil), .base (.lst (s1 _ _ hs)), kitAny_cons (b := true) (kit_ty (by decide +kernel)) (fun z => nomatch z) (fun _ => rfl), k _ s1⟩
    · exact ⟨.ref a, t, [.ty "list", .ty "tuple"], _, _, true, rfl, upd_same, .cons (.ty _) (.cons (.ty _) .nil), .base (.tup (s1 _ _ hs)), kitAny_cons (b := false) (kit_ty (by decide +kernel)) (fun _ => kitAny_cons (b := true) (kit_ty (by decide +kernel)) (fun z => nomatch z) (fun _ => rfl)) (fun z => nomatch z), k _ s1⟩
/-! ### _check_core -/
def spCore : Sp := fun vs H Q _ => ∃ lo hi : Int, vs = [.int lo, .int hi] ∧ -20000 ≤ lo ∧ hi ≤ 20000 ∧ lo ≤ hi + 1 ∧ Q .non H
abbrev s_core : Stmt := top 18
abbrev N_core : List Str := ["low", "high"]
theorem sc_core : FnScope N_core ["low", "high"] (defScope s_core) := ⟨rfl, rfl, rfl, by decide +kernel, rfl, by decide +kernel, by decide +kernel⟩
theorem kp_core (F : At K mg "_check_core" s_core) (G : Keeps CX0 P w K mg base "is_whole" 1 ["thing"] spWhole) (mF : ∃ t, mg "FARTHEST" = some (.int 20000 t)) : Keeps CX0 P w K mg base "_check_core" 2 ["low", "high"] spCore := by
  refine keeps_of F sc_core (fun _ _ _ _ _ _ us hl => match us, hl with | [_, _], _ => rfl) (fun vs H Q E h => ?_) (fun f cdv A outer s H vs Q E hr h => ?_)
  · obtain ⟨lo, hi, rfl, _⟩ := h
    rfl
  · obtain ⟨lo, hi, rfl, h1, h2, h3, k⟩ := h
    obtain ⟨t, mF⟩ := mF
    refine ⟨_, (pss_cons (ps_if (PW.pt (pw_or (pt_not (pt_val (pe_k G hr (by rfl) pass0 (pa_cons (pv 0) pa_nil)))) (pw_or1 (pt_not (pt_val (pe_k G hr (by rfl) pass0 (pa_cons (pv 1) pa_nil))))))) (pss_one ps_never) pss_nil)
        (pss_one (ps_if (PW.pt (pw_or (pt_cmpR op_lt (pv 0) (pe_un un_neg (pe_glob (v := .int 20000) (by rfl) mF ⟨_, rfl⟩)) (nomark _)) (pw_or (pt_cmpR op_gt (pv 1) (pe_glob (v := .int 20000) (by rfl) mF ⟨_, rfl⟩) (nomark _)) (pw_or1 (pt_cmpR op_gt (pv 0) (pe_op op_add (pv 1) pe_int) (nomark _)))))) (pss_one ps_never) pss_nil))), ?_⟩
    refine ⟨_, rfl, lo, rfl, _, rfl, iteF ⟨_, rfl, hi, rfl, _, rfl, iteF ?_⟩⟩
    refine ⟨_, rfl, _, rfl, _, _, rfl, rfl, _, rfl, ?_⟩
    rw [decide_eq_false (by omega : ¬ lo < -20000)]
    refine iteF ⟨_, rfl, _, _, rfl, rfl, _, rfl, ?_⟩
    rw [decide_eq_false (by omega : ¬ hi > 20000)]
    refine iteF ⟨_, rfl, _, rfl, _, _, rfl, rfl, _, _, rfl, rfl, _, rfl, ?_⟩
    rw [decide_eq_false (by omega : ¬ lo > hi + 1)]
    exact iteF k
/-! ### _are_unlike_from -/
def spUnl : Sp := fun vs H Q _ => ∃ (a : Addr) (ns : List Int) (lo hi : Int), vs = [.ref a, .int lo, .int hi] ∧ SqA H a (ns.map V.int) ∧ ns.Nodup ∧ ns.length ≤ 60000 ∧ (∀ n ∈ ns, lo ≤ n ∧ n ≤ hi) ∧ ∀ H', Same H H' → Q (.bl true) H'
abbrev s_unl : Stmt := top 19
abbrev N_unl : List Str := ["numbers", "low", "high", "seen", "number"]
theorem sc_unl : FnScope N_unl ["numbers", "low", "high"] (defScope s_unl) := ⟨rfl, rfl, rfl, by decide +kernel, rfl, by decide +kernel, by decide +kernel⟩
theorem kp_unl (F : At K mg "_are_unlike_from" s_unl) (G : Keeps CX0 P w K mg base "is_whole_from" 2 ["thing", "low", "high"] spWholeF) (G2 : Keeps CX0 P w K mg base "is_sequence" 1 ["thing"] spSeq) :
    Keeps CX0 P w K mg base "_are_unlike_from" 3 ["numbers", "low", "high"] spUnl := by
  refine keeps_of F sc_unl (fun _ _ _ _ _ _ us hl => match us, hl with | [_, _, _], _ => rfl) (fun vs H Q E h => ?_) (fun f cdv A outer s H vs Q E hr h => ?_)
  · obtain ⟨a, ns, lo, hi, rfl, _⟩ := h
    rfl
  · obtain ⟨a, ns, lo, hi, rfl, hs, nd, hl, hb, k⟩ := h
    have hu := hu_of hr
    refine ⟨_, (pss_cons (ps_if (pt_not (pt_val (pe_k G2 (hr.mono (by decide)) (by rfl) pass0 (pa_cons (pv 0) pa_nil)))) (pss_one (ps_ret pe_bl)) pss_nil)
        (pss_cons (ps_set (i := 3) sc_unl.nd rfl (by walk_at "lv") pe_dnewK)
        (pss_cons (ps_for PassesOwn.never rfl (pi_seqV (pv 0)) (pg_name (i := 4) sc_unl.nd rfl (by walk_at "lv")) (pss_cons (ps_if (PW.pt (pw_or (pt_not (pt_val (pe_k G hr (by rfl) pass0 (pa_cons (pv 4) (pa_cons (pv 1) (pa_cons (pv 2) pa_nil)))))) (pw_or1 (pt_cmp (pc_din hu (pv 4) (pv 3)))))) (pss_one (ps_ret pe_bl)) pss_nil)
        (pss_one (ps_dput hu (pv 3) (pv 4) pe_bl rfl))))
        (pss_one (ps_ret pe_bl))))), ?_⟩
    refine ⟨_, rfl, a, _, rfl, hs, fun H1 s1 => ⟨_, rfl, iteF ?_⟩⟩
    intro d hd
    have s2 := same_new (o := .dK []) s1 hd
    refine ⟨a, _, rfl, hs.same s2, fun J wk => for_it wk (fun i σ H2 => ∃ x kvs, σ = [some (.ref a), some (.int lo), some (.int hi), some (.ref d), x] ∧ H2 d = some (.dK kvs) ∧ kvs.length ≤ i ∧ (∀ n : Int, (valV kvs (Sum.inl n)).isSome = true → n ∈ ns.take i) ∧ Same H H2 ∧ (∀ b o, b ≠ d → upd H1 d (.dK []) b = some o → H2 b = some o))
      ⟨_, [], rfl, upd_same, Nat.le_refl 0, (fun n h => by simp [valV_nil] at h), s2, fun b o _ e => e⟩ (fun i σ H2 _ ⟨_, _, _, _, _, _, s3, _⟩ => by rw [hs.keep s3, hs.keep s2]) ?_ ?_⟩
    · rintro i v σ H2 H3 hi' ⟨x, kvs, rfl, e1, e2, e3, s3, b3⟩ ⟨rfl, e4⟩
      obtain ⟨n, hn, rfl⟩ := int_at e4
      have hmem := List.mem_of_getElem? hn
      have hbn := hb n hmem
      refine ⟨_, rfl, _, rfl, _, rfl, n, lo, hi, rfl, ?_⟩
      rw [decide_eq_true hbn.1, decide_eq_true hbn.2]
      refine ⟨_, rfl, iteF ⟨_, rfl, _, rfl, d, _, rfl, DGet.k (k := Sum.inl n) e1, _, rfl, ?_⟩⟩
      have hnone : valV kvs (Sum.inl n) = none := by
        cases e : valV kvs (Sum.inl n) with
        | none => rfl
        | some y =>
          have q := e3 n (by rw [e]; rfl)
          obtain ⟨j, hj, hj2⟩ := List.mem_take_iff_getElem.mp q
          obtain ⟨hi3, hi4⟩ := List.getElem?_eq_some_iff.mp hn
          exact absurd (hj2.trans hi4.symm) (List.pairwise_iff_getElem.mp nd j i (by omega) hi3 (by omega))
      rw [hnone]
      have hi1000 : i < 60000 := by rw [List.length_map] at hi'; omega
      refine iteF ⟨_, rfl, _, rfl, d, _, rfl, DPut.k (k := Sum.inl n) e1 (smallB (by omega)), ?_⟩
      have hdn : H1 d = none := hd
      refine ⟨_, _, rfl, upd_same, Nat.le_trans (length_putK _ _ _) (by omega), fun m hm => ?_, fun b o e => ?_, fun b o hb' e => ?_⟩
      · rw [valV_put] at hm
        obtain ⟨hi3, hi4⟩ := List.getElem?_eq_some_iff.mp hn
        rw [List.take_succ_eq_append_getElem hi3]
        by_cases q : (Sum.inl m : Key) = Sum.inl n
        · cases q
          exact List.mem_append_right _ (by rw [hi4]; exact List.mem_singleton.mpr rfl)
        · rw [if_neg q] at hm
          exact List.mem_append_left _ (e3 m hm)
      · have hbd : b ≠ d := ne_of_none (s1 _ _ e) hdn
        rw [upd_ne hbd]
        exact s3 b o e
      · rw [upd_ne hb']
        exact b3 b o hb' e
    · rintro σ H2 ⟨x, kvs, rfl, e1, e2, e3, s3, b3⟩
      exact k _ s3
end
end My
set_option Elab.async false
set_option linter.all false
set_option maxRecDepth 100000
set_option maxHeartbeats 8000000
namespace My
open PySem PySem.Spec PyProof.Rows L2
/-! ### facts of the error classes -/
/-- the class at C: its name, its row of bases -/
def clsB (K : PySem.W.Frag) (C : Addr) (nm : Str) (bm : List Value) : Bool := match K.lookup C with
  | some ⟨.type t, _, .cls cd, sl⟩ => decide (t = "type") && (match cd.mro, sl.toList with
    | .ref C' :: r, [_, _, _, _, some (.builtin n), _] => decide (C' = C) && (decide (n = "ValueError.__new__") && (!cd.hasDel && (cd.hasDict && (decide (cd.name = nm) && decide (r = bm)))))
    | _, _ => false)
  | _ => false
theorem and_ok {a b : Bool} (h : (a && b) = true) : a = true ∧ b = true := Bool.and_eq_true_iff.mp h
theorem clsB_ok {K : PySem.W.Frag} {C : Addr} {nm : Str} {bm : List Value} (h : clsB K C nm bm = true) :
    ∃ q N bs sn sub ab col dd k0 k1 k2 k3 k5, K.lookup C = some (excClassObj nm q C N bs bm true sn sub ab col dd k0 k1 k2 k3 k5 "ValueError.__new__") := by
  unfold clsB at h
  split at h
  · rename_i t dd cd sl lk
    obtain ⟨nm', bs, mro, ns, qn, hd, sn, sb, ab, col, del⟩ := cd
    obtain ⟨l⟩ := sl
    obtain ⟨ht, h⟩ := and_ok h
    have ht := of_decide_eq_true ht
    dsimp only at h
    split at h
    · rename_i C' r k0 k1 k2 k3 n k5
      obtain ⟨h1, h⟩ := and_ok h
      obtain ⟨h2, h⟩ := and_ok h
      obtain ⟨h3, h⟩ := and_ok h
      obtain ⟨h4, h⟩ := and_ok h
      obtain ⟨h5, h6⟩ := and_ok h
      have h1 := of_decide_eq_true h1
      have h2 := of_decide_eq_true h2
      have h3 : del = false := by simpa using h3
      have h4 : hd = true := h4
      have h5 := of_decide_eq_true h5
      have h6 := of_decide_eq_true h6
      rw [lk, ht, h1, h2, h3, h4, h5, h6]
      exact ⟨_, _, _, _, _, _, _, _, _, _, _, _, _, rfl⟩
    · cases h
  · cases h
/-- what is told of an error class x with the attributes fs; b: the class above it -/
structure ExF (K : PySem.W.Frag) (mg : Str → Option Value) (x b : Str) (fs : List Str) : Prop where
  g : mg x = some (.ref (He.ga K x))
  lk : ∃ q N bs sn sub ab col dd k0 k1 k2 k3 k5, K.lookup (He.ga K x) = some (excClassObj x q (He.ga K x) N bs (.ref (He.ga K b) :: He.veBase) true sn sub ab col dd k0 k1 k2 k3 k5 "ValueError.__new__")
  sa : PySem.W.findIn K (.ref (He.ga K x)) "__setattr__" = some (some (.builtin "object.__setattr__"))
  exC : PySem.W.subIn K (.ref (He.ga K x)) (.type "BaseException") = some true
  kC : PySem.W.keepIn K (.ref (He.ga K x)) = true
  ga : PySem.W.findIn K (.ref (He.ga K x)) "__getattribute__" = some (some (.builtin "BaseException.__getattribute__"))
  gg : PySem.W.findIn K (.ref (He.ga K x)) "__getattr__" = some none
  ca : PySem.W.findIn K (.ref (He.ga K x)) "__class__" = some (some (.builtin "object.__class__"))
  mo : PySem.W.mroIn K (He.ga K x) (.type "object") = some true
  no : ∀ f ∈ fs, PySem.W.findIn K (.ref (He.ga K x)) f = some none
  kB : PySem.W.kitOne K (.ref (He.ga K x)) (.ref (He.ga K b)) = some true
  kV : PySem.W.kitOne K (.ref (He.ga K x)) (.type "ValueError") = some true
  xm : PySem.W.exmOne K (.ref (He.ga K x)) (.ref (He.ga K b)) = some true
  new : fs = [] → PySem.W.excIn K (He.ga K x) He.veBase "ValueError.__new__" = true
  ini : fs ≠ [] → PySem.W.findIn K (.ref (He.ga K x)) "__init__" = some (some (.ref (He.ma K (He.ga K x) "__init__"))) ∧ PySem.W.typeIn K (.ref (He.ma K (He.ga K x) "__init__")) = some (.type "function")
def exB (K : PySem.W.Frag) (b : Str) (p : Str × List Str) : Bool :=
  (He.Fa.glo p.1).ok K && (clsB K (He.ga K p.1) p.1 (.ref (He.ga K b) :: He.veBase) && (decide (PySem.W.findIn K (.ref (He.ga K p.1)) "__setattr__" = some (some (.builtin "object.__setattr__"))) &&
  (decide (PySem.W.subIn K (.ref (He.ga K p.1)) (.type "BaseException") = some true) && (PySem.W.keepIn K (.ref (He.ga K p.1)) && (decide (PySem.W.findIn K (.ref (He.ga K p.1)) "__getattribute__" = some (some (.builtin "BaseException.__getattribute__"))) &&
  (decide (PySem.W.findIn K (.ref (He.ga K p.1)) "__getattr__" = some none) && (decide (PySem.W.findIn K (.ref (He.ga K p.1)) "__class__" = some (some (.builtin "object.__class__"))) && (decide (PySem.W.mroIn K (He.ga K p.1) (.type "object") = some true) &&
  ((p.2.all fun f => decide (PySem.W.findIn K (.ref (He.ga K p.1)) f = some none)) && (decide (PySem.W.kitOne K (.ref (He.ga K p.1)) (.ref (He.ga K b)) = some true) && (decide (PySem.W.kitOne K (.ref (He.ga K p.1)) (.type "ValueError") = some true) && (decide (PySem.W.exmOne K (.ref (He.ga K p.1)) (.ref (He.ga K b)) = some true) &&
  (match p.2 with
    | [] => PySem.W.excIn K (He.ga K p.1) He.veBase "ValueError.__new__"
    | _ => decide (PySem.W.findIn K (.ref (He.ga K p.1)) "__init__" = some (some (.ref (He.ma K (He.ga K p.1) "__init__")))) && decide (PySem.W.typeIn K (.ref (He.ma K (He.ga K p.1) "__init__")) = some (.type "function")))))))))))))))
theorem exB_ok {K : PySem.W.Frag} {h : Heap} {mg : Str → Option Value} (X : K.In h) (G : h.Ns mainGlobals mg) {x b : Str} {fs : List Str} (c : exB K b (x, fs) = true) : ExF K mg x b fs := by
  obtain ⟨c1, c⟩ := and_ok c
  obtain ⟨c2, c⟩ := and_ok c
  obtain ⟨c3, c⟩ := and_ok c
  obtain ⟨c4, c⟩ := and_ok c
  obtain ⟨c5, c⟩ := and_ok c
  obtain ⟨c6, c⟩ := and_ok c
  obtain ⟨c7, c⟩ := and_ok c
  obtain ⟨c8, c⟩ := and_ok c
  obtain ⟨c9, c⟩ := and_ok c
  obtain ⟨c10, c⟩ := and_ok c
  obtain ⟨c11, c⟩ := and_ok c
  obtain ⟨c12, c⟩ := and_ok c
  obtain ⟨c13, c⟩ := and_ok c
  refine ⟨He.glo_ok X G c1, clsB_ok c2, of_decide_eq_true c3, of_decide_eq_true c4, c5, of_decide_eq_true c6, of_decide_eq_true c7, of_decide_eq_true c8, of_decide_eq_true c9, fun f hf => of_decide_eq_true (List.all_eq_true.mp c10 f hf), of_decide_eq_true c11, of_decide_eq_true c12, of_decide_eq_true c13, fun e => ?_, fun e => ?_⟩
  · subst e
    exact c
  · cases fs with
    | nil => exact absurd rfl e
    | cons f r =>
      obtain ⟨d1, d2⟩ := and_ok c
      exact ⟨of_decide_eq_true d1, of_decide_eq_true d2⟩
section
variable {K : PySem.W.Frag} {mg : Str → Option Value} {x b : Str} {fs : List Str}
theorem ExF.ty (T : ExF K mg x b fs) : PySem.W.typeIn K (.ref (He.ga K x)) = some (.type "type") := by
  obtain ⟨q, N, bs, sn, sub, ab, col, dd, k0, k1, k2, k3, k5, lk⟩ := T.lk
  show ((K.lookup (He.ga K x)).map (·.cls)) = _
  rw [lk]
  rfl
theorem ExF.cl (T : ExF K mg x b fs) : (PySem.W.clsIn K (He.ga K x)).isSome = true := by
  obtain ⟨q, N, bs, sn, sub, ab, col, dd, k0, k1, k2, k3, k5, lk⟩ := T.lk
  unfold PySem.W.clsIn
  rw [lk]
  rfl
theorem ExF.dict (T : ExF K mg x b fs) : PySem.W.hasDictIn K (He.ga K x) = true := by
  obtain ⟨q, N, bs, sn, sub, ab, col, dd, k0, k1, k2, k3, k5, lk⟩ := T.lk
  unfold PySem.W.hasDictIn PySem.W.clsIn
  rw [lk]
  rfl
theorem ExF.ox (T : ExF K mg x b fs) : OexC K (He.ga K x) := by
  obtain ⟨q, N, bs, sn, sub, ab, col, dd, k0, k1, k2, k3, k5, lk⟩ := T.lk
  exact ⟨⟨x, q, N, bs, _, sn, sub, ab, col, dd, k0, k1, k2, k3, k5, lk, (show PySem.HandSPX.refsVE He.veBase = true by decide +kernel)⟩, T.sa, T.exC, T.ty, T.kC⟩
/-- two of them: is the one the other -/
theorem kit_two {y : Str} {gs : List Str} (T : ExF K mg x b fs) (U : ExF K mg y b gs) (hb : y ≠ b) (hB : ∃ q N bs bm sn sub ab col dd k0 k1 k2 k3 k5 nid, K.lookup (He.ga K b) = some (excClassObj b q (He.ga K b) N bs bm true sn sub ab col dd k0 k1 k2 k3 k5 nid)) :
    PySem.W.kitOne K (.ref (He.ga K x)) (.ref (He.ga K y)) = some (decide (x = y)) := by
  by_cases e : x = y
  · subst e
    rw [decide_eq_true rfl]
    exact if_pos (by simp)
  · rw [decide_eq_false e]
    obtain ⟨q, N, bs, sn, sub, ab, col, dd, k0, k1, k2, k3, k5, lx⟩ := T.lk
    obtain ⟨q', N', bs', sn', sub', ab', col', dd', k0', k1', k2', k3', k5', ly⟩ := U.lk
    obtain ⟨q2, N2, bs2, bm2, sn2, sub2, ab2, col2, dd2, m0, m1, m2, m3, m5, nid, lb⟩ := hB
    have n1 : He.ga K x ≠ He.ga K y := fun z => by
      rw [z, ly] at lx
      have z1 := Option.some.inj lx
      simp only [excClassObj, Obj.mk.injEq, Data.cls.injEq, ClassData.mk.injEq] at z1
      exact e z1.2.2.1.1.symm
    have n2 : He.ga K b ≠ He.ga K y := fun z => by
      rw [z, ly] at lb
      have z1 := Option.some.inj lb
      simp only [excClassObj, Obj.mk.injEq, Data.cls.injEq, ClassData.mk.injEq] at z1
      exact hb z1.2.2.1.1
    have n3 : ¬ ((Value.ref (He.ga K x) == Value.ref (He.ga K y)) = true) := fun z => n1 (Value.ref.inj (beq_iff_eq.mp z))
    unfold PySem.W.kitOne
    rw [if_neg n3]
    show (if ((PySem.W.clsIn K (He.ga K y)).isSome && PySem.W.typeIn K (.ref (He.ga K y)) == some (.type "type")) = true then PySem.W.subIn K (.ref (He.ga K x)) (.ref (He.ga K y)) else none) = some false
    rw [if_pos (by rw [U.cl, U.ty]; rfl)]
    show PySem.W.mroIn K (He.ga K x) (.ref (He.ga K y)) = some false
    unfold PySem.W.mroIn PySem.W.clsIn
    rw [lx]
    have c1 : (Value.ref (He.ga K y) == Value.ref (He.ga K x)) = false := by
      rw [beq_eq_false_iff_ne]
      exact fun z => n1 (Value.ref.inj z).symm
    have c2 : (Value.ref (He.ga K y) == Value.ref (He.ga K b)) = false := by
      rw [beq_eq_false_iff_ne]
      exact fun z => n2 (Value.ref.inj z).symm
    simp [List.contains_cons, c1, c2, He.veBase]
    exact ⟨fun z => n1 z.symm, fun z => n2 z.symm⟩
end
end My

namespace My
open PySem PySem.Spec PyProof.Rows L2
/-! ### errors as values: made, asked for their class, read -/
section
variable {X : Cx} {e : Expr} {es : List Expr} {ta : TA} {te : TE} {p pos : Pos} {x b n : Str} {fs : List Str}
/-- X(), no __init__ of its own -/
theorem pe_exv0 (T : ExF X.K X.mg x b fs) (nf : fs = []) (hg : Gl X x) (dbg : (x == ("__debug__" : Str)) = false := by decide) :
    PE X (.Call (.Name x p) [] [] pos) (fun _ H Q => ∀ a, H a = none → Q (.ref a) (upd H a (exo a (He.ga X.K x) none))) := by
  refine ⟨fun pins s σ H Q I h => ?_⟩
  refine wpAny_Call_Name_kw (ld_glob I hg T.g ?_ dbg)
  refine PySem.W.callWith_K0 I.kIn T.kC ?_
  show wpAny _ _ (call (.ref (He.ga X.K x)) []) _ _ _
  obtain ⟨bm, N, nm, qn, bs, hdct, sn, sub, ab, col, dd, k0, k1, k2, k3, k5, mN, hC, hN, hni, TL⟩ := exc_obj I.kIn (T.new nf)
  refine wpAny_call_exc_subT PySem.F.excBase_ValueError TL hC hN hni (fun h' a hm => ?_) (by show 0 ≤ sizeLine; exact Nat.zero_le _)
  have hn : H a = none := I.hok.gone hm.new
  obtain ⟨tt, et, _, _⟩ := hm.there
  exact ⟨.ref a, _, I.laidN hm.keeps hm.new hn (exo_ok et), rfl, h a hn⟩
/-- the reading of X(e, ..) with an __init__ that keeps sp -/
def tExv (C : Addr) (sp : Sp) (ta : TA) : TE := fun σ H Q => ta σ H fun vs H1 => vs.length ≤ 1000 ∧ ∀ a, H1 a = none →
  sp (.ref a :: vs) (upd H1 a (exo a C none)) (fun v H2 => v = .non ∧ Q (.ref a) H2) fun _ _ _ => False
theorem pe_exv {CX : CXT} {k : Nat} {fI : Addr} {fd : FuncData} {ps : List Str} {sp : Sp} (T : ExF X.K X.mg x b fs) (nf : fs ≠ []) (ef : fI = He.ma X.K (He.ga X.K x) "__init__") (F1 : FnOk X.prog X.w X.K X.mg X.base CX k fI fd ps sp)
    (hr : Room (k + 1) X.A) (hb : Binds X.K fd ps []) (hx : Passes CX X (fun _ _ _ => False)) (hg : Gl X x) (ha : PA X (e :: es) ta)
    (dbg : (x == ("__debug__" : Str)) = false := by decide) (hst : starEach (e :: es) X.env = (false, eval e X.env) :: starEach es X.env := by rfl) (hpl : (backTo pos (starEach es X.env)).any (·.1) = false := by rfl) :
    PE X (.Call (.Name x p) (e :: es) [] pos) (tExv (He.ga X.K x) sp ta) := by
  subst ef
  refine ⟨fun pins s σ H Q I h => ?_⟩
  obtain ⟨iC, tI⟩ := T.ini nf
  obtain ⟨nm, q, N, bs, bm, sn, sub, ab, col, dd, k0, k1, k2, k3, k5, hC, hbm⟩ := T.ox.cls
  refine wpAny_Call_Name_kw (ld_glob I hg T.g ?_ dbg)
  refine PySem.W.callWith_K (h₀ := X.base) I.ok.mod.kin T.kC ?_ hst hpl
  refine thn (ha.run pos pins s σ H _ I h) fun us s1 hh => ?_
  obtain ⟨vs, H1, I1, r1, hz, q1⟩ := hh
  refine ⟨I1.kIn, ?_⟩
  show wpAny _ _ (call (.ref (He.ga X.K x)) us) _ _ _
  obtain ⟨hp, g, dr, tk, os⟩ := s1
  have hup : hp.objs.size ≤ hp.objs.size + 1 := Nat.le_succ _
  have hfr : H1 (hp.objs.size + 1) = none := I1.hok.fresh hup
  have hq := q1 _ hfr
  let h2 : Heap := (hp.push (PySem.W.kdv_tup us)).push (PySem.HandSPX.excO (He.ga X.K x) hp.objs.size)
  have kk : ∀ a o, hp.get? a = some o → h2.get? a = some o := fun a o z => Heap.get?_push_of_some _ (Heap.get?_push_of_some _ z)
  have hget : h2.get? (hp.objs.size + 1) = some (PySem.HandSPX.excO (He.ga X.K x) hp.objs.size) := by
    show ((hp.push (PySem.W.kdv_tup us)).push (PySem.HandSPX.excO (He.ga X.K x) hp.objs.size)).get? _ = _
    heap_get
  have I2 : Inv X pins σ (upd H1 (hp.objs.size + 1) (exo (hp.objs.size + 1) (He.ga X.K x) none)) ⟨h2, g, dr, tk, os⟩ := I1.laid (t' := tk) (h' := h2) kk hup (exo_ok hget)
  have rr : Vals (V.ref (hp.objs.size + 1) :: vs) (Value.ref (hp.objs.size + 1) :: us) := .cons rfl r1
  have hl : (Value.ref (hp.objs.size + 1) :: us).length = ps.length := by
    rw [← rr.length]
    exact F1.len _ _ _ _ hq
  have few : us.length ≤ sizeLine := by rw [← r1.length, sizeLine_eq]; omega
  have hbb := hb ⟨h2, g, dr, tk, os⟩ (Value.ref (hp.objs.size + 1) :: us) I2.kIn (by rw [List.append_nil]; exact hl)
  rw [List.append_nil] at hbb
  refine wpAny_call (PySem.HandSPX.call_own PySem.F.excBase_ValueError (fun Y => PySem.HandSPX.refsVE_contains Y bm hbm) (I1.kIn _ _ hC) (PySem.W.looks_findIn I1.kIn iC) (fun self => PySem.W.bind_fn I1.kIn self tI) few ?_)
  refine codeAny_mono (F1.run _ X.stack _ _ ⟨Value.ref (hp.objs.size + 1) :: us, []⟩ _ _ _ (fun _ _ _ => False) (hr.make (He.ga X.K x) us []) (I2.env0.make (He.ga X.K x) us []) hbb rr hq) fun r s' out => ?_
  cases r with
  | error er => exact hx pins σ _ _ er s' I2 out
  | ok fl =>
    cases fl with
    | ret u =>
      obtain ⟨v, H2, os2, bare2, un2, hok2, rv, ev, q2⟩ := out
      subst ev
      exact ⟨rv, .ref (hp.objs.size + 1), H2, I2.call' (ch := []) os2 un2 hok2 bare2 (fun b z => absurd z (by simp)), rfl, q2⟩
    | next => exact out.elim
    | brk => exact out.elim
    | cont => exact out.elim
/-- what the state knows of the error at a: tracked, or held by the suite -/
def ExKnown (H : Hp) (pn : List (Addr × Obj)) (C a : Addr) : Prop := (∃ d, H a = some (exo a C d) ∧ ∀ dd, d = some dd → ∃ fs, H dd = some (exd dd fs)) ∨
  ∃ oe, (a, oe) ∈ pn ∧ oe.cls = .ref C ∧ (∃ vs, oe.data = .fields vs) ∧ ∀ dd, oe.dict = some dd → ∃ fs, H dd = some (.xd fs)
/-- isinstance(e, c) -/
def rIsx (K : PySem.W.Frag) (mg : Str → Option Value) (pn : List (Addr × Obj)) : List V → Hp → VK → Prop := fun xs H Q => ∃ (a : Addr) (c : V) (cv : Value) (y z : Str) (gs : List Str) (r : Bool), xs = [.ref a, c] ∧ (∀ u, RelV c u → u = cv) ∧ ExF K mg y z gs ∧
  ExKnown H pn (He.ga K y) a ∧ PySem.W.kitOne K (.ref (He.ga K y)) cv = some r ∧ Q (.bl r) H
theorem call_isx (hn : PySem.W.specialIn X.K (.builtin "object.__class__") "__get__" = some (some (.builtin "getset_descriptor.__get__"))) (ht : PySem.W.takesIn X.K (.builtin "object.__class__") = some true) :
    CallR X (.builtin "isinstance") (rIsx X.K X.mg X.pn) := by
  intro pns s σ H xs us Q I r h
  obtain ⟨a, c, cv, y, z, gs, b, rfl, hcv, T, kn, e, q⟩ := h
  cases r with
  | cons rx rr =>
    cases rr with
    | cons rt rr =>
      cases rr
      cases rx
      have ec := hcv _ rt
      subst ec
      obtain ⟨oe, od, J⟩ : ∃ oe od, PySem.W.InstAt s.heap a oe (He.ga X.K y) od := by
        rcases kn with ⟨d, ea, hd⟩ | ⟨oe, hp, h1, ⟨vs, h2⟩, h3⟩
        · obtain ⟨t1, ho⟩ := exo_at I.hok ea
          cases d with
          | none => exact ⟨_, none, ⟨ho, rfl, rfl, trivial⟩⟩
          | some dd =>
            obtain ⟨f2, ed⟩ := hd dd rfl
            obtain ⟨mA, hns, _⟩ := exd_at I.hok ed
            obtain ⟨o2, ho2, _⟩ := lookIn_ns hns
            exact ⟨_, some o2, ⟨ho, rfl, rfl, ho2⟩⟩
        · obtain ⟨hget, _⟩ := I.pin (a, oe) (List.mem_append.mpr (.inl hp))
          obtain ⟨oc, dct, oda, osl⟩ := oe
          dsimp only at h1 h2 h3
          subst h1 h2
          cases dct with
          | none => exact ⟨_, none, ⟨hget, rfl, rfl, trivial⟩⟩
          | some dd =>
            obtain ⟨f2, ed⟩ := h3 dd rfl
            obtain ⟨mA, hns, _⟩ := (show ObjOk X.prog X.w H s.heap dd (.xd f2) from I.hok dd _ ed)
            obtain ⟨o2, ho2, _⟩ := lookIn_ns hns
            exact ⟨_, some o2, ⟨hget, rfl, rfl, ho2⟩⟩
      exact PySem.W.kia_one (PySem.W.kitx_exc T.cl T.ga T.gg T.exC T.ca hn ht T.mo) I.kIn J e (fun z => nomatch z) fun tk => ⟨.bl b, H, I.tok tk, rfl, q⟩
/-- e.f of a tracked error -/
def tXat (K : PySem.W.Frag) (mg : Str → Option Value) (f : Str) (te : TE) : TE := fun σ H Q => te σ H fun v H1 => ∃ (a d : Addr) (y z : Str) (gs : List Str) (fs : List (Str × V)) (u : V), v = .ref a ∧ ExF K mg y z gs ∧ f ∈ gs ∧
  H1 a = some (exo a (He.ga K y) (some d)) ∧ H1 d = some (exd d fs) ∧ fs.lookup f = some u ∧ Q u H1
theorem pe_xat (he : PE X e te) (hb : attributeBase e n X.env (eval e X.env) = eval e X.env := by rfl) : PE X (.Attribute e n pos) (tXat X.K X.mg n te) := by
  refine ⟨fun pins s σ H Q I h => ?_⟩
  refine attr_of hb (thn (he.run pins s σ H _ I h) fun u s1 hh => ?_)
  obtain ⟨v, H1, I1, rv, a, d, y, z, gs, fs, w, rfl, T, hf, ea, ed, l, q⟩ := hh
  cases rv
  obtain ⟨t1, ho⟩ := exo_at I1.hok ea
  obtain ⟨mA, hns, hr⟩ := exd_at I1.hok ed
  obtain ⟨od, hod, hl⟩ := lookIn_ns hns
  obtain ⟨uw, hu, ru⟩ := RelO.some_of (v := w) (o := mA n) (by rw [← l]; exact hr n)
  have J : PySem.W.InstAt s1.heap a _ (He.ga X.K y) (some od) := ⟨ho, rfl, rfl, hod⟩
  exact HandSPX.exc_get I1.kIn J T.ga T.gg T.exC (PySem.W.findObj_own T.dict (T.no n hf) rfl (by rw [hl, hu])) (handed_of ru) ⟨w, H1, I1.tok _, ru, q⟩
end
end My

namespace My
open PySem PySem.Spec PyProof.Rows L2
/-! ### the __init__ of an error -/
def spIni (C : Addr) (fs : List Str) : Sp := fun vs H Q _ => ∃ (a : Addr) (ys : List V), vs = .ref a :: ys ∧ ys.length = fs.length ∧ H a = some (exo a C none) ∧
  ∀ d H', H d = none → d ≠ a → H' a = some (exo a C (some d)) → H' d = some (exd d (fs.zip ys).reverse) → (∀ b o, b ≠ a → H b = some o → H' b = some o) → Q .non H'
/-- the def __init__ of the class x, as it stands -/
def AtI (K : PySem.W.Frag) (x q : Str) (st : Stmt) : Prop := ∃ fd, FunD K "__init__" q (defArgs st) (defBody st) (defScope st) [] [] (He.ma K (He.ga K x) "__init__") fd
def KeepsI (P : Program) (w : World) (K : PySem.W.Frag) (mg : Str → Option Value) (base : Heap) (x : Str) (fs : List Str) : Prop :=
  ∃ fd, FnOk P w K mg base CX0 1 (He.ma K (He.ga K x) "__init__") fd ("self" :: fs) (spIni (He.ga K x) fs) ∧ Binds K fd ("self" :: fs) []
section
variable {P : Program} {w : World} {K : PySem.W.Frag} {mg : Str → Option Value} {base : Heap}
abbrev bindsI (st : Stmt) (q : Str) (ps : List Str) : Prop := ∀ (kV doc pm : Value) (an : Option Addr) (cdv ct : Value) (us : List Value), us.length = ps.length → bindArgs (PySem.W.fnOf "__init__" q (defArgs st) (defBody st) (defScope st) .none kV doc pm an cdv ct) ⟨us, []⟩ = pure (ps.zip us)
theorem ini_of {x q : Str} {st : Stmt} {fs : List Str} (F : AtI K x q st) (S : FnScope ("self" :: fs) ("self" :: fs) (defScope st)) (hb : bindsI st q ("self" :: fs))
    (hbody : ∀ (fd : FuncData) (cdv : Value) (A : Around) (outer : List Env) (s : Shared) (H : Hp) (vs : List V) (Q : VK) (E : XK), spIni (He.ga K x) fs vs H Q E →
      ∃ t, PSs (cxOf CX0 P w K mg base ("self" :: fs) q (defScope st) (He.ma K (He.ga K x) "__init__") cdv A outer s H E).nox (defBody st) t ∧ t { nx := fun _ H' => Q .non H', rt := Q } (start ("self" :: fs) vs) H) :
    KeepsI P w K mg base x fs := by
  obtain ⟨fd, F⟩ := F
  refine ⟨fd, F.ok S (fun vs H Q E h => ?_) (fun cdv A outer s H vs Q E hr h => ?_), F.bindsN hb⟩
  · obtain ⟨a, ys, rfl, hl, _⟩ := h
    simp only [List.length_cons, hl]
  · obtain ⟨t, h1, h2⟩ := hbody fd cdv A outer s H vs Q E h
    exact ⟨t, h1.nox, h2⟩
theorem one_of {ys : List V} (h : ys.length = 1) : ∃ y, ys = [y] := match ys, h with | [y], _ => ⟨y, rfl⟩
theorem two_of {ys : List V} (h : ys.length = 2) : ∃ y z, ys = [y, z] := match ys, h with | [y, z], _ => ⟨y, z, rfl⟩
theorem three_of {ys : List V} (h : ys.length = 3) : ∃ y z u, ys = [y, z, u] := match ys, h with | [y, z, u], _ => ⟨y, z, u, rfl⟩
theorem ki_TooLong (F : AtI K "TooLong" "TooLong.__init__" (inClass (top 9) 0)) (T : ExF K mg "TooLong" "BookError" ["most"]) : KeepsI P w K mg base "TooLong" ["most"] := by
  refine ini_of F ⟨rfl, rfl, rfl, by decide +kernel, rfl, by decide +kernel, by decide +kernel⟩ (fun _ _ _ _ _ _ us hl => match us, hl with | [_, _], _ => rfl) (fun fd cdv A outer s H vs Q E h => ?_)
  obtain ⟨a, ys, rfl, hl, ha, k⟩ := h
  obtain ⟨y, rfl⟩ := one_of hl
  refine ⟨_, pss_one (ps_ost (pv 0) (pv 1)), ?_⟩
  refine ⟨_, rfl, _, rfl, a, _, rfl, T.ox, T.no _ (by decide), .inl ⟨ha, fun d hd hne => ?_⟩⟩
  refine k d _ hd hne upd_same ?_ fun b o hb e => ?_
  · rw [upd_ne hne, upd_same]
    rfl
  · rw [upd_ne hb, upd_ne (ne_of_none e hd)]
    exact e
end
end My
set_option Elab.async false
set_option linter.all false
set_option maxRecDepth 100000
set_option maxHeartbeats 8000000
namespace My
open PySem PySem.Spec PyProof.Rows L2
local macro_rules | `(tactic| walk_at "lv") => `(tactic| first | exact Or.inl rfl | exact Or.inr rfl)
/-! ### the class Lot -/
def lotF (lo hi m : Int) (a b c : Addr) : List (Str × V) := putF "downs" (.ref c) (putF "ups" (.ref b) (putF "modulus" (.int m) (putF "inside" (.ref a) (putF "high" (.int hi) (putF "low" (.int lo) [])))))
section
variable {lo hi m : Int} {a b c : Addr}
theorem lf_low : (lotF lo hi m a b c).lookup ("low" : Str) = some (.int lo) := by
  unfold lotF
  rw [lookup_putF, if_neg (by decide +kernel), lookup_putF, if_neg (by decide +kernel), lookup_putF, if_neg (by decide +kernel), lookup_putF, if_neg (by decide +kernel), lookup_putF, if_neg (by decide +kernel), lookup_putF, if_pos rfl]
theorem lf_high : (lotF lo hi m a b c).lookup ("high" : Str) = some (.int hi) := by
  unfold lotF
  rw [lookup_putF, if_neg (by decide +kernel), lookup_putF, if_neg (by decide +kernel), lookup_putF, if_neg (by decide +kernel), lookup_putF, if_neg (by decide +kernel), lookup_putF, if_pos rfl]
theorem lf_inside : (lotF lo hi m a b c).lookup ("inside" : Str) = some (.ref a) := by
  unfold lotF
  rw [lookup_putF, if_neg (by decide +kernel), lookup_putF, if_neg (by decide +kernel), lookup_putF, if_neg (by decide +kernel), lookup_putF, if_pos rfl]
theorem lf_modulus : (lotF lo hi m a b c).lookup ("modulus" : Str) = some (.int m) := by
  unfold lotF
  rw [lookup_putF, if_neg (by decide +kernel), lookup_putF, if_neg (by decide +kernel), lookup_putF, if_pos rfl]
theorem lf_ups : (lotF lo hi m a b c).lookup ("ups" : Str) = some (.ref b) := by
  unfold lotF
  rw [lookup_putF, if_neg (by decide +kernel), lookup_putF, if_pos rfl]
theorem lf_downs : (lotF lo hi m a b c).lookup ("downs" : Str) = some (.ref c) := by
  unfold lotF
  rw [lookup_putF, if_pos rfl]
end
/-- a Lot stands at p -/
def LotAt (C : Addr) (H : Hp) (p : Addr) (lo hi : Int) (ins : List Int) (m : Nat) (us ds : List Int) : Prop :=
  ∃ dx a b c, H p = some (.ins C dx (lotF lo hi m a b c)) ∧ H a = some (.tup (ins.map V.int)) ∧ H b = some (.tup (us.map V.int)) ∧ H c = some (.tup (ds.map V.int))
theorem LotAt.same {C : Addr} {H H' : Hp} {p : Addr} {lo hi : Int} {ins us ds : List Int} {m : Nat} (s : Same H H') (h : LotAt C H p lo hi ins m us ds) : LotAt C H' p lo hi ins m us ds := by
  obtain ⟨dx, a, b, c, h1, h2, h3, h4⟩ := h
  exact ⟨dx, a, b, c, s _ _ h1, s _ _ h2, s _ _ h3, s _ _ h4⟩
structure LotTxt (K : PySem.W.Frag) (mg : Str → Option Value) (C : Addr) : Prop where
  cl : Cls K C
  n1 : NoAttr K C "low"
  n2 : NoAttr K C "high"
  n3 : NoAttr K C "inside"
  n4 : NoAttr K C "modulus"
  n5 : NoAttr K C "ups"
  n6 : NoAttr K C "downs"
  mgC : mg "Lot" = some (.ref C)
  (ha : PySem.W.findIn K (.ref C) "__class__" = some (some (.builtin "object.__class__"))) (hn : PySem.W.specialIn K (.builtin "object.__class__") "__get__" = some (some (.builtin "getset_descriptor.__get__")))
  (ht : PySem.W.takesIn K (.builtin "object.__class__") = some true) (hm : PySem.W.mroIn K C (.type "object") = some true)
  notStr : PySem.W.kitOne K (.ref C) (.type "str") = some false
  isLot : PySem.W.kitOne K (.ref C) (.ref C) = some true
/-- a def of the class at C, as it stands -/
def AtM (K : PySem.W.Frag) (C : Addr) (g : Addr) (nm q : Str) (st : Stmt) : Prop := ∃ fd, FunD K nm q (defArgs st) (defBody st) (defScope st) [] [] g fd
def KeepsM (P : Program) (w : World) (K : PySem.W.Frag) (mg : Str → Option Value) (base : Heap) (g : Addr) (k : Nat) (ps : List Str) (sp : Sp) : Prop :=
  ∃ fd, FnOk P w K mg base CX0 k g fd ps sp ∧ Binds K fd ps []
section
variable {P : Program} {w : World} {K : PySem.W.Frag} {mg : Str → Option Value} {base : Heap}
abbrev bindsM (st : Stmt) (nm q : Str) (ps : List Str) : Prop := ∀ (kV doc pm : Value) (an : Option Addr) (cdv ct : Value) (us : List Value), us.length = ps.length → bindArgs (PySem.W.fnOf nm q (defArgs st) (defBody st) (defScope st) .none kV doc pm an cdv ct) ⟨us, []⟩ = pure (ps.zip us)
theorem keepsM_of {C g : Addr} {nm q : Str} {st : Stmt} {N ps : List Str} {k : Nat} {sp : Sp} (F : AtM K C g nm q st) (S : FnScope N ps (defScope st)) (hb : bindsM st nm q ps) (len : ∀ vs H Q E, sp vs H Q E → vs.length = ps.length)
    (hbody : ∀ (cdv : Value) (A : Around) (outer : List Env) (s : Shared) (H : Hp) (vs : List V) (Q : VK) (E : XK), Room k (A.deeper (envOfC q (defScope st) s.heap.objs.size g cdv)) → sp vs H Q E →
      ∃ t, PSs (cxOf CX0 P w K mg base N q (defScope st) g cdv A outer s H E).nox (defBody st) t ∧ t { nx := fun _ H' => Q .non H', rt := Q } (start N vs) H) : KeepsM P w K mg base g (k + 1) ps sp := by
  obtain ⟨fd, F⟩ := F
  refine ⟨fd, F.ok S len (fun cdv A outer s H vs Q E hr h => ?_), F.bindsN hb⟩
  obtain ⟨t, h1, h2⟩ := hbody cdv A outer s H vs Q E hr h
  exact ⟨t, h1.nox, h2⟩
/-! ### Lot.__init__ -/
def spLotI (C : Addr) : Sp := fun vs H Q _ => ∃ (p dx a b c : Addr) (lo hi : Int) (m : Nat) (ins us ds : List Int), vs = [.ref p, .int lo, .int hi, .ref a, .int m, .ref b, .ref c] ∧ H p = some (.ins C dx []) ∧
  H a = some (.lst (ins.map V.int)) ∧ H b = some (.lst (us.map V.int)) ∧ H c = some (.lst (ds.map V.int)) ∧
  ∀ H', LotAt C H' p lo hi ins m us ds → (∀ x o, x ≠ p → H x = some o → H' x = some o) → Q .non H'
abbrev s_lotI : Stmt := inClass (top 16) 0
abbrev N_lotI : List Str := ["self", "low", "high", "inside", "modulus", "ups", "downs"]
theorem sc_lotI : FnScope N_lotI ["self", "low", "high", "inside", "modulus", "ups", "downs"] (defScope s_lotI) := ⟨rfl, rfl, rfl, by decide +kernel, rfl, by decide +kernel, by decide +kernel⟩
theorem putF_small {f : Str} {v : V} {fs : List (Str × V)} {n : Nat} (h : fs.length ≤ n) : (putF f v fs).length ≤ n + 1 := Nat.le_trans (length_putF f v fs) (by omega)
theorem kp_lotI {C g : Addr} (F : AtM K C g "__init__" "Lot.__init__" s_lotI) (T : LotTxt K mg C) (N : Nb mg) : KeepsM P w K mg base g 1 ["self", "low", "high", "inside", "modulus", "ups", "downs"] (spLotI C) := by
  refine keepsM_of F sc_lotI (fun _ _ _ _ _ _ us hl => match us, hl with | [_, _, _, _, _, _, _], _ => rfl) (fun vs H Q E h => ?_) (fun cdv A outer s H vs Q E hr h => ?_)
  · obtain ⟨p, dx, a, b, c, lo, hi, m, ins, us, ds, rfl, _⟩ := h
    rfl
  · obtain ⟨p, dx, a, b, c, lo, hi, m, ins, us, ds, rfl, hp, ha, hb, hc, k⟩ := h
    refine ⟨_, (pss_cons (ps_fld (pv 0) (pv 1) rfl)
        (pss_cons (ps_fld (pv 0) (pv 2) rfl)
        (pss_cons (ps_fld (pv 0) (pe_callTy call_tuple_of (by rfl) N.tuple (by decide +kernel) (pa_cons (pv 3) pa_nil)) rfl)
        (pss_cons (ps_fld (pv 0) (pv 4) rfl)
        (pss_cons (ps_fld (pv 0) (pe_callTy call_tuple_of (by rfl) N.tuple (by decide +kernel) (pa_cons (pv 5) pa_nil)) rfl)
        (pss_one (ps_fld (pv 0) (pe_callTy call_tuple_of (by rfl) N.tuple (by decide +kernel) (pa_cons (pv 6) pa_nil)) rfl))))))), ?_⟩
    have pa : a ≠ p := ne_of ha hp (by intro z; cases z)
    have pb : b ≠ p := ne_of hb hp (by intro z; cases z)
    have pc : c ≠ p := ne_of hc hp (by intro z; cases z)
    have f1 : (putF "low" (V.int lo) []).length ≤ 1 := putF_small (Nat.le_refl 0)
    have f2 := putF_small (f := "high") (v := V.int hi) f1
    refine ⟨_, rfl, _, rfl, p, C, dx, _, rfl, hp, T.cl, T.n1, (by show 0 < 1000; decide), ?_⟩
    refine ⟨_, rfl, _, rfl, p, C, dx, _, rfl, upd_same, T.cl, T.n2, (by omega), ?_⟩
    refine ⟨_, rfl, a, _, rfl, .inl ⟨SqL.of (by rw [upd_ne pa, upd_ne pa]; exact ha), fun l1 hl1 => ?_⟩⟩
    have pl1 : p ≠ l1 := ne_of_none upd_same hl1
    have f3 := putF_small (f := "inside") (v := V.ref l1) f2
    have f4 := putF_small (f := "modulus") (v := V.int m) f3
    refine ⟨_, rfl, p, C, dx, _, rfl, (by rw [upd_ne pl1]; exact upd_same), T.cl, T.n3, (by omega), ?_⟩
    refine ⟨_, rfl, _, rfl, p, C, dx, _, rfl, upd_same, T.cl, T.n4, (by omega), ?_⟩
    have bl1 : b ≠ l1 := ne_of_none (by rw [upd_ne pb, upd_ne pb]; exact hb) hl1
    have cl1 : c ≠ l1 := ne_of_none (by rw [upd_ne pc, upd_ne pc]; exact hc) hl1
    refine ⟨_, rfl, b, _, rfl, .inl ⟨SqL.of (by rw [upd_ne pb, upd_ne pb, upd_ne bl1, upd_ne pb, upd_ne pb]; exact hb), fun l2 hl2 => ?_⟩⟩
    have pl2 : p ≠ l2 := ne_of_none upd_same hl2
    have l12 : l1 ≠ l2 := ne_of_none (by rw [upd_ne pl1.symm, upd_ne pl1.symm]; exact upd_same) hl2
    have cl2 : c ≠ l2 := ne_of_none (by rw [upd_ne pc, upd_ne pc, upd_ne cl1, upd_ne pc, upd_ne pc]; exact hc) hl2
    have f5 := putF_small (f := "ups") (v := V.ref l2) f4
    refine ⟨_, rfl, p, C, dx, _, rfl, (by rw [upd_ne pl2]; exact upd_same), T.cl, T.n5, (by omega), ?_⟩
    refine ⟨_, rfl, c, _, rfl, .inl ⟨SqL.of (by rw [upd_ne pc, upd_ne cl2, upd_ne pc, upd_ne pc, upd_ne cl1, upd_ne pc, upd_ne pc]; exact hc), fun l3 hl3 => ?_⟩⟩
    have pl3 : p ≠ l3 := ne_of_none upd_same hl3
    have l13 : l1 ≠ l3 := ne_of_none (by rw [upd_ne pl1.symm, upd_ne l12, upd_ne pl1.symm, upd_ne pl1.symm]; exact upd_same) hl3
    have l23 : l2 ≠ l3 := ne_of_none (by rw [upd_ne pl2.symm]; exact upd_same) hl3
    refine ⟨_, rfl, p, C, dx, _, rfl, (by rw [upd_ne pl3]; exact upd_same), T.cl, T.n6, (by omega), ?_⟩
    refine k _ ⟨dx, l1, l2, l3, upd_same, ?_, ?_, ?_⟩ fun x o hx e => ?_
    · rw [upd_ne pl1.symm, upd_ne l13, upd_ne pl1.symm, upd_ne l12, upd_ne pl1.symm, upd_ne pl1.symm]; exact upd_same
    · rw [upd_ne pl2.symm, upd_ne l23, upd_ne pl2.symm]; exact upd_same
    · rw [upd_ne pl3.symm]; exact upd_same
    · have x1 : x ≠ l1 := ne_of_none (by rw [upd_ne hx, upd_ne hx]; exact e) hl1
      have x2 : x ≠ l2 := ne_of_none (by rw [upd_ne hx, upd_ne hx, upd_ne x1, upd_ne hx, upd_ne hx]; exact e) hl2
      have x3 : x ≠ l3 := ne_of_none (by rw [upd_ne hx, upd_ne x2, upd_ne hx, upd_ne hx, upd_ne x1, upd_ne hx, upd_ne hx]; exact e) hl3
      rw [upd_ne hx, upd_ne x3, upd_ne hx, upd_ne x2, upd_ne hx, upd_ne hx, upd_ne x1, upd_ne hx, upd_ne hx]; exact e
end
end My
set_option Elab.async false
set_option linter.all false
set_option maxRecDepth 100000
set_option maxHeartbeats 8000000
namespace My
open PySem PySem.Spec PyProof.Rows L2
local macro_rules | `(tactic| walk_at "lv") => `(tactic| first | exact Or.inl rfl | exact Or.inr rfl)
/-! ### data of ints and bools -/
theorem dp_ints {K : PySem.W.Frag} {H : Hp} : ∀ ns : List Int, DpAll K H (ns.map V.int) (ns.map PyData.int)
  | [] => .nil
  | n :: r => .cons (.int n) (dp_ints r)
theorem lay_ints : ∀ ns : List Int, PyData.canLayAll0 (ns.map PyData.int) = true ∧ PyData.depthAll (ns.map PyData.int) = 0
  | [] => ⟨rfl, rfl⟩
  | n :: r => by
    obtain ⟨h1, h2⟩ := lay_ints r
    exact ⟨by show (_ && _) = true; rw [h1]; rfl, by show max _ _ = 0; rw [h2]; rfl⟩
theorem eqv_ints : ∀ ns ms : List Int, PyData.eqvAll (ns.map PyData.int) (ms.map PyData.int) = decide (ns = ms)
  | [], [] => by simp [PyData.eqvAll]
  | [], _ :: _ => by simp [PyData.eqvAll]
  | _ :: _, [] => by simp [PyData.eqvAll]
  | n :: r, m :: t => by
    show (PyData.eqv (.int n) (.int m) && PyData.eqvAll (r.map PyData.int) (t.map PyData.int)) = _
    rw [eqv_ints r t]
    show ((n == m) && _) = _
    by_cases h : n = m
    · subst h; simp
    · simp [h]
theorem dp_bls {K : PySem.W.Frag} {H : Hp} : ∀ ns : List Bool, DpAll K H (ns.map V.bl) (ns.map PyData.bool)
  | [] => .nil
  | n :: r => .cons (.bl n) (dp_bls r)
theorem lay_bls : ∀ ns : List Bool, PyData.canLayAll0 (ns.map PyData.bool) = true ∧ PyData.depthAll (ns.map PyData.bool) = 0
  | [] => ⟨rfl, rfl⟩
  | n :: r => by
    obtain ⟨h1, h2⟩ := lay_bls r
    exact ⟨by show (_ && _) = true; rw [h1]; rfl, by show max _ _ = 0; rw [h2]; rfl⟩
theorem eqv_bls : ∀ ns ms : List Bool, PyData.eqvAll (ns.map PyData.bool) (ms.map PyData.bool) = decide (ns = ms)
  | [], [] => by simp [PyData.eqvAll]
  | [], _ :: _ => by simp [PyData.eqvAll]
  | _ :: _, [] => by simp [PyData.eqvAll]
  | n :: r, m :: t => by
    show (PyData.eqv (.bool n) (.bool m) && PyData.eqvAll (r.map PyData.bool) (t.map PyData.bool)) = _
    rw [eqv_bls r t]
    show ((n == m) && _) = _
    by_cases h : n = m
    · subst h; simp
    · simp [h]
theorem shp_tup {ds : List PyData} {n : Nat} (h : PyData.canLayAll0 ds = true) (h2 : PyData.depthAll ds = n) (hn : n ≤ 63) : SeqAt.shaped (.tuple ds) = true := by
  show (_ && _) = true
  refine Bool.and_eq_true_iff.mpr ⟨h, decide_eq_true ?_⟩
  show PyData.depthAll ds + 1 ≤ 64
  omega
theorem shp_lst {ds : List PyData} {n : Nat} (h : PyData.canLayAll0 ds = true) (h2 : PyData.depthAll ds = n) (hn : n ≤ 63) : SeqAt.shaped (.list ds) = true := by
  show (_ && _) = true
  refine Bool.and_eq_true_iff.mpr ⟨h, decide_eq_true ?_⟩
  show PyData.depthAll ds + 1 ≤ 64
  omega
theorem shp_ti (ns : List Int) : SeqAt.shaped (.tuple (ns.map PyData.int)) = true := shp_tup (lay_ints ns).1 (lay_ints ns).2 (by decide)
theorem inV_ints (n : Int) : ∀ ns : List Int, inV (.int n) (ns.map V.int) = decide (n ∈ ns)
  | [] => by simp [inV]
  | m :: r => by
    show ((m == n) || inV (.int n) (r.map V.int)) = _
    rw [inV_ints n r]
    by_cases h : m = n
    · subst h; simp
    · have : ¬ n = m := fun z => h z.symm
      simp [h, this]
theorem flat_ints : ∀ ns : List Int, (ns.map V.int).all flatV = true
  | [] => rfl
  | n :: r => by
    show (_ && _) = true
    rw [flat_ints r]; rfl
theorem vdec (a b : Int) : decide (V.int a = V.int b) = decide (a = b) := by
  by_cases h : a = b
  · subst h; simp
  · simp [h]
theorem eqv_ti (a b : List Int) : PyData.eqv (.tuple (a.map PyData.int)) (.tuple (b.map PyData.int)) = decide (a = b) := eqv_ints a b
section
variable {P : Program} {w : World} {K : PySem.W.Frag} {mg : Str → Option Value} {base : Heap}
/-! ### Lot.__contains__ -/
def lotHas (lo hi : Int) (ins : List Int) (m : Nat) (us ds : List Int) (n : Int) : Bool := if hi < n then decide (n % (m : Int) ∈ us) else if n < lo then decide (n % (m : Int) ∈ ds) else decide (n ∈ ins)
def spLotC (C : Addr) : Sp := fun vs H Q _ => ∃ (p : Addr) (n lo hi : Int) (m : Nat) (ins us ds : List Int), vs = [.ref p, .int n] ∧ LotAt C H p lo hi ins m us ds ∧ 0 < m ∧ Q (.bl (lotHas lo hi ins m us ds n)) H
abbrev s_lotC : Stmt := inClass (top 16) 2
abbrev N_lotC : List Str := ["self", "number"]
theorem sc_lotC : FnScope N_lotC ["self", "number"] (defScope s_lotC) := ⟨rfl, rfl, rfl, by decide +kernel, rfl, by decide +kernel, by decide +kernel⟩
theorem kp_lotC {C g : Addr} (F : AtM K C g "__contains__" "Lot.__contains__" s_lotC) (T : LotTxt K mg C) : KeepsM P w K mg base g 1 ["self", "number"] (spLotC C) := by
  refine keepsM_of F sc_lotC (fun _ _ _ _ _ _ us hl => match us, hl with | [_, _], _ => rfl) (fun vs H Q E h => ?_) (fun cdv A outer s H vs Q E hr h => ?_)
  · obtain ⟨p, n, lo, hi, m, ins, us, ds, rfl, _⟩ := h
    rfl
  · obtain ⟨p, n, lo, hi, m, ins, us, ds, rfl, ⟨dx, a, b, c, hp, ha, hb, hc⟩, hm, k⟩ := h
    have hm' : (0 : Int) < (m : Int) := by omega
    refine ⟨_, (pss_cons (ps_if (pt_cmpR op_gt (pv 1) (pe_fld (pv 0) rfl) (nomark _)) (pss_one (ps_ret (pe_cmpR op_in_seq (pe_op op_mod (pv 1) (pe_fld (pv 0) rfl)) (pe_fld (pv 0) rfl) (by rfl)))) pss_nil)
        (pss_cons (ps_if (pt_cmpR op_lt (pv 1) (pe_fld (pv 0) rfl) (nomark _)) (pss_one (ps_ret (pe_cmpR op_in_seq (pe_op op_mod (pv 1) (pe_fld (pv 0) rfl)) (pe_fld (pv 0) rfl) (by rfl)))) pss_nil)
        (pss_one (ps_ret (pe_cmpR op_in_seq (pv 1) (pe_fld (pv 0) rfl) (by rfl)))))), ?_⟩
    unfold lotHas at k
    refine ⟨_, rfl, _, rfl, p, C, dx, _, _, rfl, hp, T.cl, T.n2, lf_high, _, _, rfl, rfl, _, rfl, ?_⟩
    refine ite2 (fun h1 => ?_) (fun h1 => ?_)
    · have h1 := of_decide_eq_true h1
      rw [if_pos h1] at k
      refine ⟨_, rfl, _, rfl, p, C, dx, _, _, rfl, hp, T.cl, T.n4, lf_modulus, _, _, rfl, rfl, hm', ?_⟩
      refine ⟨_, rfl, p, C, dx, _, _, rfl, hp, T.cl, T.n5, lf_ups, b, _, rfl, .inr (SqT.of hb), rfl, flat_ints _, ?_⟩
      show Q (.bl (inV _ _)) _
      rw [inV_ints]
      exact k
    · have h1 : ¬ hi < n := fun z => h1 (decide_eq_true z)
      rw [if_neg h1] at k
      refine ⟨_, rfl, _, rfl, p, C, dx, _, _, rfl, hp, T.cl, T.n1, lf_low, _, _, rfl, rfl, _, rfl, ?_⟩
      refine ite2 (fun h2 => ?_) (fun h2 => ?_)
      · have h2 := of_decide_eq_true h2
        rw [if_pos h2] at k
        refine ⟨_, rfl, _, rfl, p, C, dx, _, _, rfl, hp, T.cl, T.n4, lf_modulus, _, _, rfl, rfl, hm', ?_⟩
        refine ⟨_, rfl, p, C, dx, _, _, rfl, hp, T.cl, T.n6, lf_downs, c, _, rfl, .inr (SqT.of hc), rfl, flat_ints _, ?_⟩
        show Q (.bl (inV _ _)) _
        rw [inV_ints]
        exact k
      · have h2 : ¬ n < lo := fun z => h2 (decide_eq_true z)
        rw [if_neg h2] at k
        refine ⟨_, rfl, _, rfl, p, C, dx, _, _, rfl, hp, T.cl, T.n3, lf_inside, a, _, rfl, .inr (SqT.of ha), rfl, flat_ints _, ?_⟩
        show Q (.bl (inV _ _)) _
        rw [inV_ints]
        exact k
/-! ### Lot.__eq__ -/
def lotEq (lo hi : Int) (ins : List Int) (m : Int) (us ds : List Int) (lo' hi' : Int) (ins' : List Int) (m' : Int) (us' ds' : List Int) : Bool :=
  decide (lo = lo') && (decide (hi = hi') && (decide (ins = ins') && (decide (m = m') && (decide (us = us') && decide (ds = ds')))))
def spLotE (C : Addr) : Sp := fun vs H Q _ => ∃ (p q : Addr) (lo hi lo' hi' : Int) (m m' : Nat) (ins us ds ins' us' ds' : List Int), vs = [.ref p, .ref q] ∧ LotAt C H p lo hi ins m us ds ∧ LotAt C H q lo' hi' ins' m' us' ds' ∧
  Q (.bl (lotEq lo hi ins m us ds lo' hi' ins' m' us' ds')) H
abbrev s_lotE : Stmt := inClass (top 16) 1
abbrev N_lotE : List Str := ["self", "other"]
theorem sc_lotE : FnScope N_lotE ["self", "other"] (defScope s_lotE) := ⟨rfl, rfl, rfl, by decide +kernel, rfl, by decide +kernel, by decide +kernel⟩
theorem kp_lotE {C g : Addr} (F : AtM K C g "__eq__" "Lot.__eq__" s_lotE) (T : LotTxt K mg C) (N : Nb mg) : KeepsM P w K mg base g 1 ["self", "other"] (spLotE C) := by
  refine keepsM_of F sc_lotE (fun _ _ _ _ _ _ us hl => match us, hl with | [_, _], _ => rfl) (fun vs H Q E h => ?_) (fun cdv A outer s H vs Q E hr h => ?_)
  · obtain ⟨p, q, lo, hi, lo', hi', m, m', ins, us, ds, ins', us', ds', rfl, _⟩ := h
    rfl
  · obtain ⟨p, q, lo, hi, lo', hi', m, m', ins, us, ds, ins', us', ds', rfl, ⟨dx, a, b, c, hp, ha, hb, hc⟩, ⟨dx', a', b', c', hp', ha', hb', hc'⟩, k⟩ := h
    refine ⟨_, (pss_one (ps_ret (pe_and (pe_callB call_isi (by rfl) N.isinstance boot_isinstance (pa_cons (pv 1) (pa_cons (pe_glob (v := .ref C) (by rfl) T.mgC rfl) pa_nil))) (pe_and (pe_cmpR op_eq (pe_fld (pv 0) rfl) (pe_fld (pv 1) rfl) (nomark _)) (pe_and (pe_cmpR op_eq (pe_fld (pv 0) rfl) (pe_fld (pv 1) rfl) (nomark _)) (pe_and (pe_cmpR (op_eqD hr.units) (pe_fld (pv 0) rfl) (pe_fld (pv 1) rfl) (nomark _)) (pe_and (pe_cmpR op_eq (pe_fld (pv 0) rfl) (pe_fld (pv 1) rfl) (nomark _)) (pe_and (pe_cmpR (op_eqD hr.units) (pe_fld (pv 0) rfl) (pe_fld (pv 1) rfl) (nomark _)) (pe_one (pe_cmpR (op_eqD hr.units) (pe_fld (pv 0) rfl) (pe_fld (pv 1) rfl) (nomark _))))))))))), ?_⟩
    unfold lotEq at k
    refine ⟨_, rfl, .ref q, .ref C, _, _, true, rfl, .own C, .base (.ins hp' T.cl T.ha T.hn T.ht T.hm), T.isLot, _, rfl, ?_⟩
    refine ⟨_, rfl, p, C, dx, _, _, rfl, hp, T.cl, T.n1, lf_low, _, rfl, q, C, dx', _, _, rfl, hp', T.cl, T.n1, lf_low, rfl, _, rfl, ?_⟩
    rw [vdec]
    cases e : decide (lo = lo') with
    | false => rw [e] at k; exact iteF k
    | true =>
    rw [e] at k
    refine iteT ⟨_, rfl, p, C, dx, _, _, rfl, hp, T.cl, T.n2, lf_high, _, rfl, q, C, dx', _, _, rfl, hp', T.cl, T.n2, lf_high, rfl, _, rfl, ?_⟩
    rw [vdec]
    cases e : decide (hi = hi') with
    | false => rw [e] at k; exact iteF k
    | true =>
    rw [e] at k
    refine iteT ⟨_, rfl, p, C, dx, _, _, rfl, hp, T.cl, T.n3, lf_inside, _, rfl, q, C, dx', _, _, rfl, hp', T.cl, T.n3, lf_inside, _, _, .tup (SqT.of ha) (dp_ints ins), .tup (SqT.of ha') (dp_ints ins'), shp_ti _, shp_ti _, _, rfl, ?_⟩
    rw [eqv_ti]
    cases e : decide (ins = ins') with
    | false => rw [e] at k; exact iteF k
    | true =>
    rw [e] at k
    refine iteT ⟨_, rfl, p, C, dx, _, _, rfl, hp, T.cl, T.n4, lf_modulus, _, rfl, q, C, dx', _, _, rfl, hp', T.cl, T.n4, lf_modulus, rfl, _, rfl, ?_⟩
    rw [vdec]
    cases e : decide ((m : Int) = m') with
    | false => rw [e] at k; exact iteF k
    | true =>
    rw [e] at k
    refine iteT ⟨_, rfl, p, C, dx, _, _, rfl, hp, T.cl, T.n5, lf_ups, _, rfl, q, C, dx', _, _, rfl, hp', T.cl, T.n5, lf_ups, _, _, .tup (SqT.of hb) (dp_ints us), .tup (SqT.of hb') (dp_ints us'), shp_ti _, shp_ti _, _, rfl, ?_⟩
    rw [eqv_ti]
    cases e : decide (us = us') with
    | false => rw [e] at k; exact iteF k
    | true =>
    rw [e] at k
    refine iteT ⟨_, rfl, p, C, dx, _, _, rfl, hp, T.cl, T.n6, lf_downs, _, rfl, q, C, dx', _, _, rfl, hp', T.cl, T.n6, lf_downs, _, _, .tup (SqT.of hc) (dp_ints ds), .tup (SqT.of hc') (dp_ints ds'), shp_ti _, shp_ti _, ?_⟩
    show Q (.bl (PyData.eqv _ _)) _
    rw [eqv_ti]
    exact k
end
end My
set_option Elab.async false
set_option linter.all false
set_option maxRecDepth 100000
set_option maxHeartbeats 8000000
namespace My
open PySem PySem.Spec PyProof.Rows L2
local macro_rules | `(tactic| walk_at "lv") => `(tactic| first | exact Or.inl rfl | exact Or.inr rfl)
/-! ### comprehensions that make objects, if at all, and change none -/
theorem lc_itF {J : It} {n : Nat} {G : Hp → Prop} {Y : Nat → Hp → V → Hp → Prop} (w : Walk J n G Y) {g : TG} {tt : TT} {te : TE} {vs : List Nat} {σ : L2.St} {H0 : Hp} {D : Addr} {Qd : Hp → Prop} (hD : H0 D = none) (L : Nat → List V) (h0 : L 0 = [])
    (hl : ∀ i, i < n → (L i).length < sizeLine) (hG : ∀ H, Same H0 H → G H)
    (hs : ∀ i x H H', i < n → H D = some (.lst (L i)) → Same H0 H → Y i H x H' → g x (wipe σ vs) H' fun σ2 H2 => wipe σ2 vs = wipe σ vs ∧ tt σ2 H2 fun b H3 =>
      if b = true then te σ2 H3 fun y H4 => H4 D = some (.lst (L i)) ∧ Same H0 H4 ∧ L (i + 1) = L i ++ [y] else H3 D = some (.lst (L i)) ∧ Same H0 H3 ∧ L (i + 1) = L i)
    (mono : ∀ (x : V) (H' : Hp), ∀ Q Q' : L2.St → Hp → Prop, (∀ σ2 H2, Q σ2 H2 → Q' σ2 H2) → g x (wipe σ vs) H' Q → g x (wipe σ vs) H' Q')
    (monoT : ∀ (σ2 : L2.St) (H2 : Hp), ∀ Q Q' : Bool → Hp → Prop, (∀ b H3, Q b H3 → Q' b H3) → tt σ2 H2 Q → tt σ2 H2 Q')
    (monoE : ∀ (σ2 : L2.St) (H2 : Hp), ∀ Q Q' : V → Hp → Prop, (∀ b H3, Q b H3 → Q' b H3) → te σ2 H2 Q → te σ2 H2 Q')
    (hd : ∀ H, H D = some (.lst (L n)) → Same H0 H → Qd H) :
    ∃ W : Nat → Nat → Hp → Prop, (∃ m, W 0 m (upd H0 D (.lst []))) ∧ ∀ i m H, W i m H →
      (J.stop i H ∧ Qd H) ∨ (J.go i H ∧ ∃ Nx : Hp → Prop, (∀ H', Nx H' → ∃ k, k < m ∧ W (i + 1) k H') ∧ ∀ x H', J.yld i H x H' → g x (wipe σ vs) H' fun σ2 H2 => wipe σ2 vs = wipe σ vs ∧ tt σ2 H2 fun b H3 =>
        if b = true then te σ2 H3 fun y H4 => ∃ xs, H4 D = some (.lst xs) ∧ xs.length < sizeLine ∧ Nx (upd H4 D (.lst (xs ++ [y]))) else Nx H3) := by
  refine lc_it w (fun i H => H D = some (.lst (L i)) ∧ Same H0 H) ⟨by rw [h0]; exact upd_same, same_new (Same.refl H0) hD⟩ (fun i H _ h => hG H h.2) (fun i x H H' hi h y => ?_) (fun H h => hd H h.1 h.2)
  refine mono x H' _ _ (fun σ2 H2 q => ⟨q.1, monoT σ2 H2 _ _ (fun b H3 q2 => ?_) q.2⟩) (hs i x H H' hi h.1 h.2 y)
  cases b with
  | false =>
    refine iteF ?_
    obtain ⟨q1, q3, q4⟩ : _ ∧ _ ∧ _ := q2
    exact ⟨by rw [q4]; exact q1, q3⟩
  | true =>
    refine iteT ?_
    refine monoE σ2 H3 _ _ (fun v H4 q5 => ?_) q2
    obtain ⟨q1, q3, q4⟩ := q5
    refine ⟨_, q1, hl i hi, by rw [q4]; exact upd_same, fun b o e => ?_⟩
    rw [upd_ne (ne_of_none e hD)]
    exact q3 b o e
theorem walk_list2 {K : PySem.W.Frag} {a : Addr} {xs : List V} {H0 : Hp} (h : SqL K H0 a xs) : Walk (Itl K a) xs.length (fun H => Same H0 H) (YAt xs) := walk_list.mono (fun H s => s.seq h) fun _ _ _ _ _ _ y => y
theorem rep_getD (n k : Nat) : (List.replicate n false).getD k false = false := by
  rw [List.getD_eq_getElem?_getD, List.getElem?_replicate]
  split <;> rfl
section
variable {P : Program} {w : World} {K : PySem.W.Frag} {mg : Str → Option Value} {base : Heap}
/-! ### _flags -/
def spFlags : Sp := fun vs H Q _ => ∃ (a : Addr) (ns : List Int) (lo hi : Int), vs = [.int lo, .int hi, .ref a] ∧ SqA H a (ns.map V.int) ∧ lo ≤ hi + 1 ∧ hi - lo < 60000 ∧ -(2 * 10 ^ 31) ≤ lo ∧ hi ≤ 2 * 10 ^ 31 ∧ (∀ n ∈ ns, lo ≤ n ∧ n ≤ hi) ∧
  ∀ p (bs : List Bool) H', H p = none → Same H H' → H' p = some (.lst (bs.map V.bl)) → bs.length = (hi - lo + 1).toNat → (∀ k : Nat, k < bs.length → bs.getD k false = decide (lo + (k : Int) ∈ ns)) → Q (.ref p) H'
abbrev s_flags : Stmt := top 21
abbrev N_flags : List Str := ["low", "high", "numbers", "flags", "number"]
theorem sc_flags : FnScope N_flags ["low", "high", "numbers"] (defScope s_flags) := ⟨rfl, rfl, rfl, by decide +kernel, rfl, by decide +kernel, by decide +kernel⟩
theorem kp_flags (F : At K mg "_flags" s_flags) : Keeps CX0 P w K mg base "_flags" 1 ["low", "high", "numbers"] spFlags := by
  refine keeps_of F sc_flags (fun _ _ _ _ _ _ us hl => match us, hl with | [_, _, _], _ => rfl) (fun vs H Q E h => ?_) (fun f cdv A outer s H vs Q E hr h => ?_)
  · obtain ⟨a, ns, lo, hi, rfl, _⟩ := h
    rfl
  · obtain ⟨a, ns, lo, hi, rfl, hs, h1, h2, h3, h4, hb, k⟩ := h
    refine ⟨_, (pss_cons (ps_set (i := 3) sc_flags.nd rfl (by walk_at "lv") (pe_op op_rep (pe_lst (pa_cons pe_bl pa_nil)) (pe_op op_add (pe_op op_sub (pv 1) (pv 0)) pe_int)))
        (pss_cons (ps_for PassesOwn.never rfl (pi_seqV (pv 2)) (pg_name (i := 4) sc_flags.nd rfl (by walk_at "lv")) (pss_one (ps_asg pe_bl (pg_sub (pv 3) (pe_op op_sub (pv 4) (pv 0)) set_list))))
        (pss_one (ps_ret (pv 3))))), ?_⟩
    refine ⟨(by show 1 ≤ sizeLine; decide), fun l hl => ⟨_, rfl, _, rfl, _, _, rfl, rfl, _, _, rfl, rfl, l, _, _, rfl, rfl, upd_same, by omega, by omega, ?_, fun p hp => ?_⟩⟩
    · show 1 * _ ≤ _
      rw [Nat.one_mul]
      exact Nat.le_of_lt (smallB (by omega))
    · have s1 := same_new (o := .lst [V.bl false]) (Same.refl H) hl
      have e0 : ∀ n : Nat, (List.replicate n [V.bl false]).flatten = (List.replicate n false).map V.bl := fun n => by rw [rep_flat, List.map_replicate]
      rw [e0]
      have s2 := same_new (o := .lst ((List.replicate (hi - lo + 1).toNat false).map V.bl)) s1 hp
      have hpH : H p = none := s1.free hp
      refine ⟨a, _, rfl, hs.same s2, fun J wk => for_it wk (fun i σ H2 => ∃ (x : Option V) (bs : List Bool), σ = [some (.int lo), some (.int hi), some (.ref a), some (.ref p), x] ∧ H2 p = some (.lst (bs.map V.bl)) ∧ bs.length = (hi - lo + 1).toNat ∧ (∀ k : Nat, k < bs.length → bs.getD k false = decide (lo + (k : Int) ∈ ns.take i)) ∧ Same H H2)
        ⟨_, _, rfl, upd_same, by simp, (fun k hk => by rw [rep_getD]; simp), s2⟩ (fun i σ H2 _ ⟨_, _, _, _, _, _, s3⟩ => by rw [hs.keep s3, hs.keep s2]) ?_ ?_⟩
      · rintro i v σ H2 H3 hi' ⟨x, bs, rfl, e1, e2, e3, s3⟩ ⟨rfl, e4⟩
        obtain ⟨n, hn, rfl⟩ := int_at e4
        have hbn := hb n (List.mem_of_getElem? hn)
        refine ⟨_, rfl, _, rfl, _, rfl, _, _, rfl, rfl, p, _, _, (n - lo).toNat, rfl, rfl, e1, ?_, ?_⟩
        · unfold ixN
          rw [if_pos (by omega), if_pos (by rw [List.length_map]; omega)]
        refine ⟨_, bs.set (n - lo).toNat true, rfl, ?_, by rw [List.length_set]; exact e2, fun k hk => ?_, fun b o e => ?_⟩
        · rw [List.map_set]
          exact upd_same
        · rw [List.length_set] at hk
          obtain ⟨hi3, hi4⟩ := List.getElem?_eq_some_iff.mp hn
          rw [List.take_succ_eq_append_getElem hi3, hi4]
          rw [List.getD_eq_getElem?_getD, List.getElem?_set]
          by_cases q : (n - lo).toNat = k
          · rw [if_pos q, if_pos (by omega)]
            have : lo + (k : Int) = n := by omega
            simp [this]
          · rw [if_neg q, ← List.getD_eq_getElem?_getD, e3 k hk]
            have : ¬ lo + (k : Int) = n := by omega
            simp [this]
        · rw [upd_ne (ne_of_none e hpH)]
          exact s3 b o e
      · rintro σ H2 ⟨x, bs, rfl, e1, e2, e3, s3⟩
        refine ⟨_, rfl, ?_⟩
        refine k p bs H2 hpH s3 e1 e2 fun j hj => ?_
        rw [e3 j hj, List.length_map, List.take_length]
/-! ### _places_of -/
def spPlaces : Sp := fun vs H Q _ => ∃ (a : Addr) (bs : List Bool), vs = [.ref a] ∧ H a = some (.lst (bs.map V.bl)) ∧ bs.length ≤ 60000 ∧ ∀ p H', H p = none → Same H H' → H' p = some (.lst ((res bs).map V.int)) → Q (.ref p) H'
abbrev s_places : Stmt := top 22
abbrev N_places : List Str := ["flags", "place", "told"]
theorem sc_places : FnScope N_places ["flags"] (defScope s_places) := ⟨rfl, rfl, rfl, by decide +kernel, rfl, by decide +kernel, by decide +kernel⟩
theorem bl_at {ns : List Bool} {i : Nat} {x : V} (h : (ns.map V.bl)[i]? = some x) : ∃ z, ns[i]? = some z ∧ x = .bl z := by
  rw [List.getElem?_map] at h
  cases e : ns[i]? with
  | none =>
    rw [e] at h
    cases h
  | some z =>
    rw [e] at h
    exact ⟨z, rfl, (Option.some.inj h).symm⟩
theorem kp_places (F : At K mg "_places_of" s_places) (N : Nb mg) : Keeps CX0 P w K mg base "_places_of" 1 ["flags"] spPlaces := by
  refine keeps_of F sc_places (fun _ _ _ _ _ _ us hl => match us, hl with | [_], _ => rfl) (fun vs H Q E h => ?_) (fun f cdv A outer s H vs Q E hr h => ?_)
  · obtain ⟨a, bs, rfl, _⟩ := h
    rfl
  · obtain ⟨a, bs, rfl, ha, hl, k⟩ := h
    refine ⟨_, (pss_one (ps_ret (pe_lc (own := [("place", 1), ("told", 2)]) (g := gTup K 2 (gCons (gName 1) (gCons (gName 2) gNil))) rfl sc_places.nd (pi_enum (by rfl) N.enumerate (pa_cons (pv 0) pa_nil)) (blkOk_by (N := N_places) (sc := defScope s_places) (by decide +kernel)) (fun _ _ _ _ _ => (pg_tup (by rfl) (pgs_cons (pg_name (i := 1) sc_places.nd rfl (by walk_at "lv")) (pgs_cons (pg_name (i := 2) sc_places.nd rfl (by walk_at "lv")) pgs_nil)))) (fun _ _ _ _ _ => (pts_one (pt_val (pv 2)))) (fun _ _ _ _ _ => (pv 1))))), ?_⟩
    refine ⟨_, rfl, a, _, rfl, SqL.of ha, fun D hD => ?_⟩
    refine lc_it walk_enum (fun i H3 => H3 D = some (.lst ((fil (fun k => bs.getD k.toNat false) 0 i).map V.int)) ∧ Same H H3) ⟨upd_same, same_new (Same.refl H) hD⟩ (fun i H3 _ h => h.2.seq (SqL.of ha)) ?_ ?_
    · rintro i v H2 H3 hi ⟨e1, s1⟩ ⟨T, u, z, rfl, nT, rfl, e3, e4⟩
      obtain ⟨b, hb, rfl⟩ := bl_at e4
      cases Option.some.inj e3
      have s2 := same_new (o := .tup [V.int (i : Nat), V.bl b]) s1 nT
      have hDT : D ≠ T := ne_of_none e1 nT
      have hib : i < bs.length := (List.getElem?_eq_some_iff.mp hb).1
      have hbs : bs.getD (0 + (i : Int)).toNat false = b := by
        rw [show (0 + (i : Int)).toNat = i by omega, List.getD_eq_getElem?_getD, hb]
        rfl
      refine ⟨T, _, rfl, SqT.of upd_same, rfl, _, _, rfl, _, _, rfl, rfl, ?_⟩
      refine ⟨rfl, _, rfl, _, rfl, ?_⟩
      cases b with
      | false =>
        refine iteF ⟨?_, s2⟩
        rw [fil_neg (by rw [hbs]; exact Bool.false_ne_true), upd_ne hDT]
        exact e1
      | true =>
        refine iteT ⟨_, rfl, _, by rw [upd_ne hDT]; exact e1, smallB (by rw [List.length_map]; exact Nat.le_trans (fil_len _ _ _) (by omega)), ?_, fun b o e => ?_⟩
        · rw [fil_pos hbs, List.map_append, Int.zero_add]
          exact upd_same
        · rw [upd_ne (ne_of_none e hD)]
          exact s2 b o e
    · rintro H3 ⟨e1, s1⟩
      rw [List.length_map] at e1
      exact k D H3 hD s1 e1
end
end My
set_option Elab.async false
set_option linter.all false
set_option maxRecDepth 100000
set_option maxHeartbeats 8000000
namespace My
open PySem PySem.Spec PyProof.Rows L2
local macro_rules | `(tactic| walk_at "lv") => `(tactic| first | exact Or.inl rfl | exact Or.inr rfl)
theorem vdecB (a b : Bool) : decide (V.bl a = V.bl b) = decide (a = b) := by
  by_cases h : a = b
  · subst h; simp
  · simp [h]
theorem blI_get {bs : List Bool} {i : Int} (h0 : 0 ≤ i) (h1 : i < bs.length) : atI (bs.map V.bl) i = some (.bl (bs.getD i.toNat false)) := by
  obtain ⟨v, e, e2⟩ := atI_of (xs := bs.map V.bl) h0 (by rw [List.length_map]; exact h1)
  obtain ⟨b, hb, rfl⟩ := bl_at e
  rw [e2, List.getD_eq_getElem?_getD, hb]
  rfl
theorem cyc_get {bs : List Bool} {n : Int} {m : Nat} (hm : bs.length = m) (h : 0 < m) : atI (bs.map V.bl) (n % (m : Int)) = some (.bl (cyc bs n)) := by
  have k0 := Int.emod_nonneg n (by omega : (m : Int) ≠ 0)
  have k1 := Int.emod_lt_of_pos n (by omega : (0 : Int) < (m : Int))
  rw [blI_get k0 (by omega)]
  unfold cyc
  rw [hm]
section
variable {P : Program} {w : World} {K : PySem.W.Frag} {mg : Str → Option Value} {base : Heap}
/-! ### _repeats -/
def spRep : Sp := fun vs H Q _ => ∃ (a : Addr) (bs : List Bool) (d : Nat), vs = [.ref a, .int d] ∧ H a = some (.lst (bs.map V.bl)) ∧ 0 < d ∧ d < bs.length ∧ ∀ H' r, Same H H' → r = decide (bs.drop d = bs.take (bs.length - d)) → Q (.bl r) H'
abbrev s_rep : Stmt := top 24
abbrev N_rep : List Str := ["flags", "length"]
theorem sc_rep : FnScope N_rep ["flags", "length"] (defScope s_rep) := ⟨rfl, rfl, rfl, by decide +kernel, rfl, by decide +kernel, by decide +kernel⟩
theorem eqv_lb (a b : List Bool) : PyData.eqv (.list (a.map PyData.bool)) (.list (b.map PyData.bool)) = decide (a = b) := eqv_bls a b
theorem shp_lb (ns : List Bool) : SeqAt.shaped (.list (ns.map PyData.bool)) = true := shp_lst (lay_bls ns).1 (lay_bls ns).2 (by decide)
theorem kp_rep (F : At K mg "_repeats" s_rep) : Keeps CX0 P w K mg base "_repeats" 1 ["flags", "length"] spRep := by
  refine keeps_of F sc_rep (fun _ _ _ _ _ _ us hl => match us, hl with | [_, _], _ => rfl) (fun vs H Q E h => ?_) (fun f cdv A outer s H vs Q E hr h => ?_)
  · obtain ⟨a, bs, d, rfl, _⟩ := h
    rfl
  · obtain ⟨a, bs, d, rfl, ha, h0, h1, k⟩ := h
    refine ⟨_, (pss_one (ps_ret (pe_cmpR (op_eqD hr.units) (pe_slice sl_list (pv 0) (po_some (pv 1)) po_none) (pe_slice sl_list (pv 0) po_none (po_some (pe_un un_neg (pv 1)))) (nomark _)))), ?_⟩
    refine ⟨_, rfl, _, rfl, _, rfl, a, _, rfl, SqL.of ha, fun p hp => ?_⟩
    have s1 := same_new (o := .lst (cutV (bs.map V.bl) (some (d : Int)) none)) (Same.refl H) hp
    refine ⟨_, rfl, _, rfl, _, rfl, _, rfl, a, _, rfl, SqL.of (s1 _ _ ha), fun q hq => ?_⟩
    have s2 := same_new (o := .lst (cutV (bs.map V.bl) none (some (-(d : Int))))) s1 hq
    have e1 : cutV (bs.map V.bl) (some (d : Int)) none = (bs.drop d).map V.bl := by
      unfold cutV
      rw [HT.sIx_nat, HT.sIx_none, List.length_map, Nat.min_eq_left (by omega), ← List.map_drop, List.take_of_length_le (by rw [List.length_map, List.length_drop]; omega)]
    have e2 : cutV (bs.map V.bl) none (some (-(d : Int))) = (bs.take (bs.length - d)).map V.bl := by
      unfold cutV
      rw [HT.sIx_none, List.drop_zero, List.length_map]
      have : HT.sIx bs.length bs.length (some (-(d : Int))) = bs.length - d := by
        show (if -(d : Int) < 0 then _ else _) = _
        rw [if_pos (by omega)]
        omega
      rw [this, List.map_take]
      rfl
    have hpq : p ≠ q := ne_of_none upd_same hq
    rw [e1, e2] at s2 ⊢
    refine ⟨_, _, .lst (SqL.of (by rw [upd_ne hpq]; exact upd_same)) (dp_bls _), .lst (SqL.of upd_same) (dp_bls _), shp_lb _, shp_lb _, ?_⟩
    show Q (.bl (PyData.eqv _ _)) _
    rw [eqv_lb]
    exact k _ _ s2 rfl
/-! ### _least_modulus -/
def spLM : Sp := fun vs H Q _ => ∃ (a b : Addr) (us ds : List Bool), vs = [.ref a, .ref b] ∧ H a = some (.lst (us.map V.bl)) ∧ H b = some (.lst (ds.map V.bl)) ∧ ds.length = us.length ∧ 0 < us.length ∧ us.length ≤ 60000 ∧
  ∀ H' (d : Nat), Same H H' → Least (cyc us) (cyc ds) d → d ≤ us.length → Q (.int d) H'
abbrev s_lm : Stmt := top 23
abbrev N_lm : List Str := ["ups", "downs", "many", "length"]
theorem sc_lm : FnScope N_lm ["ups", "downs"] (defScope s_lm) := ⟨rfl, rfl, rfl, by decide +kernel, rfl, by decide +kernel, by decide +kernel⟩
theorem kp_lm (F : At K mg "_least_modulus" s_lm) (G : Keeps CX0 P w K mg base "_repeats" 1 ["flags", "length"] spRep) (N : Nb mg) : Keeps CX0 P w K mg base "_least_modulus" 2 ["ups", "downs"] spLM := by
  refine keeps_of F sc_lm (fun _ _ _ _ _ _ us hl => match us, hl with | [_, _], _ => rfl) (fun vs H Q E h => ?_) (fun f cdv A outer s H vs Q E hr h => ?_)
  · obtain ⟨a, b, us, ds, rfl, _⟩ := h
    rfl
  · obtain ⟨a, b, us, ds, rfl, ha, hb, hl, h0, h1, k⟩ := h
    refine ⟨_, (pss_cons (ps_set (i := 2) sc_lm.nd rfl (by walk_at "lv") (pe_callB call_len_seq (by rfl) N.len (by decide +kernel) (pa_cons (pv 0) pa_nil)))
        (pss_cons (ps_for PassesOwn.never rfl (pi_range2 (by rfl) N.range (pa_cons pe_int (pa_cons (pv 2) pa_nil))) (pg_name (i := 3) sc_lm.nd rfl (by walk_at "lv")) (pss_one (ps_if (PW.pt (pw_and (pt_cmpR op_eq (pe_op op_mod (pv 2) (pv 3)) pe_int (nomark _)) (pw_and (pt_val (pe_k G hr (by rfl) pass0 (pa_cons (pv 0) (pa_cons (pv 3) pa_nil)))) (pw_and1 (pt_val (pe_k G hr (by rfl) pass0 (pa_cons (pv 1) (pa_cons (pv 3) pa_nil)))))))) (pss_one (ps_ret (pv 3))) pss_nil)))
        (pss_one (ps_ret (pv 2))))), ?_⟩
    have pu : Per (cyc us) us.length := cyc_per
    have pd : Per (cyc ds) us.length := by have := cyc_per (l := ds); rw [hl] at this; exact this
    refine ⟨_, rfl, a, _, rfl, .inl (SqL.of ha), _, rfl, ?_⟩
    refine ⟨_, _, rfl, ⟨by decide, by decide, by rw [List.length_map]; omega, by rw [List.length_map]; omega⟩, ?_⟩
    rw [List.length_map, show ((us.length : Int) - 1).toNat = us.length - 1 by omega]
    refine for_range (lo := 1) (n := us.length - 1) (fun i σ H2 => ∃ x : Option V, σ = [some (.ref a), some (.ref b), some (.int us.length), x] ∧ Same H H2 ∧ ∀ e, 0 < e → e ≤ i → us.length % e = 0 → Per (cyc us) e → Per (cyc ds) e → False) ⟨_, rfl, Same.refl H, fun e h1 h2 => by omega⟩ ?_ ?_
    · rintro i σ H2 hi ⟨x, rfl, s2, no⟩
      have e1 : (1 : Int) + (i : Nat) = ((i + 1 : Nat) : Int) := by omega
      rw [e1]
      have nx : ∀ H3, Same H H3 → (us.length % (i + 1) = 0 → Per (cyc us) (i + 1) → Per (cyc ds) (i + 1) → False) → ∃ y : Option V, [some (V.ref a), some (V.ref b), some (V.int us.length), some (V.int ((i + 1 : Nat) : Int))] = [some (.ref a), some (.ref b), some (.int us.length), y] ∧ Same H H3 ∧ ∀ e, 0 < e → e ≤ i + 1 → us.length % e = 0 → Per (cyc us) e → Per (cyc ds) e → False := fun H3 s3 hn => ⟨_, rfl, s3, fun e h2 h3 h4 h5 h6 => by
        rcases Nat.lt_or_ge e (i + 1) with q | q
        · exact no e h2 (by omega) h4 h5 h6
        · have : e = i + 1 := by omega
          subst this
          exact hn h4 h5 h6⟩
      refine ⟨_, rfl, _, rfl, _, _, rfl, rfl, (by omega : (0 : Int) < ((i + 1 : Nat) : Int)), rfl, _, rfl, ?_⟩
      rw [vdec]
      refine ite2 (fun c => ?_) (fun c => ?_)
      · have c1 : us.length % (i + 1) = 0 := by
          have := of_decide_eq_true c
          omega
        refine ⟨_, rfl, _, rfl, a, us, i + 1, rfl, s2 _ _ ha, by omega, by omega, fun H3 r s3 er => ⟨_, rfl, ?_⟩⟩
        have s4 := s2.trans s3
        cases r with
        | false =>
          refine iteF (nx _ s4 fun _ pu' _ => ?_)
          exact of_decide_eq_false er.symm ((cut_shift (by omega)).mpr (per_shift pu'))
        | true =>
          refine iteT ⟨_, rfl, _, rfl, b, ds, i + 1, rfl, s4 _ _ hb, by omega, by omega, fun H5 r2 s5 er2 => ⟨_, rfl, ?_⟩⟩
          have s6 := s4.trans s5
          cases r2 with
          | false =>
            refine iteF (nx _ s6 fun _ _ pd' => ?_)
            exact of_decide_eq_false er2.symm ((cut_shift (by omega)).mpr (per_shift pd'))
          | true =>
            refine iteT ⟨_, rfl, ?_⟩
            refine k H5 (i + 1) s6 (least_by h0 pu pd (by omega) (shift_per (by omega) c1 ((cut_shift (by omega)).mp (of_decide_eq_true er.symm))) (shift_per (by omega) (by rw [hl]; exact c1) ((cut_shift (by omega)).mp (of_decide_eq_true er2.symm))) fun e h2 h3 h4 h5 h6 => no e h2 (by omega) h4 h5 h6) (by omega)
      · exact nx _ s2 fun z => absurd (by rw [decide_eq_true]; omega) c
    · rintro σ H2 ⟨x, rfl, s2, no⟩
      refine ⟨_, rfl, ?_⟩
      exact k H2 us.length s2 (least_by h0 pu pd h0 pu pd fun e h2 h3 h4 h5 h6 => no e h2 (by omega) h4 h5 h6) (Nat.le_refl _)
end
end My
set_option Elab.async false
set_option linter.all false
set_option maxRecDepth 100000
set_option maxHeartbeats 8000000
namespace My
open PySem PySem.Spec PyProof.Rows L2
local macro_rules | `(tactic| walk_at "lv") => `(tactic| first | exact Or.inl rfl | exact Or.inr rfl)
section
variable {P : Program} {w : World} {K : PySem.W.Frag} {mg : Str → Option Value} {base : Heap}
/-- a telling's three lists -/
structure TlAt (H : Hp) (T : Tl) (c u d : Addr) : Prop where
  cs : H c = some (.lst (T.cs.map V.bl))
  us : H u = some (.lst (T.us.map V.bl))
  ds : H d = some (.lst (T.ds.map V.bl))
theorem TlAt.same {H H' : Hp} {T : Tl} {c u d : Addr} (s : Same H H') (h : TlAt H T c u d) : TlAt H' T c u d := ⟨s _ _ h.cs, s _ _ h.us, s _ _ h.ds⟩
structure Tl.Near (T : Tl) : Prop where
  ok : T.Ok
  m : T.us.length ≤ 60000
  c : T.cs.length ≤ 60000
  lo : -10 ^ 31 ≤ T.lo ∧ T.lo ≤ 10 ^ 31
/-! ### _greatest_wrong -/
def spGW : Sp := fun vs H Q _ => ∃ (T : Tl) (c u d : Addr), vs = [.int T.lo, .ref c, .ref u, .ref d] ∧ TlAt H T c u d ∧ T.Near ∧ ((∀ n, T.has n = T.U n) → Q .non H) ∧ (∀ v, T.has v ≠ T.U v → (∀ n, v < n → T.has n = T.U n) → v ≤ T.hi → Q (.int v) H)
abbrev s_gw : Stmt := top 25
abbrev N_gw : List Str := ["low", "core", "ups", "downs", "many", "at", "number"]
theorem sc_gw : FnScope N_gw ["low", "core", "ups", "downs"] (defScope s_gw) := ⟨rfl, rfl, rfl, by decide +kernel, rfl, by decide +kernel, by decide +kernel⟩
theorem kp_gw (F : At K mg "_greatest_wrong" s_gw) (N : Nb mg) : Keeps CX0 P w K mg base "_greatest_wrong" 1 ["low", "core", "ups", "downs"] spGW := by
  refine keeps_of F sc_gw (fun _ _ _ _ _ _ us hl => match us, hl with | [_, _, _, _], _ => rfl) (fun vs H Q E h => ?_) (fun f cdv A outer s H vs Q E hr h => ?_)
  · obtain ⟨T, c, u, d, rfl, _⟩ := h
    rfl
  · obtain ⟨T, c, u, d, rfl, a, near, kn, ks⟩ := h
    have ok := near.ok
    have hm := ok.pos
    have hm1 := near.m
    have hc1 := near.c
    have hlo := near.lo
    have hhi : T.hi = T.lo + T.cs.length - 1 := rfl
    refine ⟨_, (pss_cons (ps_set (i := 4) sc_gw.nd rfl (by walk_at "lv") (pe_callB call_len_seq (by rfl) N.len (by decide +kernel) (pa_cons (pv 2) pa_nil)))
        (pss_cons (ps_for PassesOwn.never rfl (pi_range3 (by rfl) N.range (pa_cons (pe_op op_sub (pe_callB call_len_seq (by rfl) N.len (by decide +kernel) (pa_cons (pv 1) pa_nil)) pe_int) (pa_cons (pe_un un_neg pe_int) (pa_cons (pe_un un_neg pe_int) pa_nil)))) (pg_name (i := 5) sc_gw.nd rfl (by walk_at "lv")) (pss_one (ps_if (pt_cmpR op_ne (pe_ix ix_list (pv 1) (pv 5) (fun _ _ => rfl)) (pe_ix ix_list (pv 2) (pe_op op_mod (pe_op op_add (pv 0) (pv 5)) (pv 4)) (fun _ _ => rfl)) (nomark _)) (pss_one (ps_ret (pe_op op_add (pv 0) (pv 5)))) pss_nil)))
        (pss_cons (ps_for PassesOwn.never rfl (pi_rangeD (by rfl) N.range (pa_cons (pe_op op_sub (pv 0) pe_int) (pa_cons (pe_op op_sub (pe_op op_sub (pv 0) pe_int) (pv 4)) (pa_cons (pe_un un_neg pe_int) pa_nil)))) (pg_name (i := 6) sc_gw.nd rfl (by walk_at "lv")) (pss_one (ps_if (pt_cmpR op_ne (pe_ix ix_list (pv 3) (pe_op op_mod (pv 6) (pv 4)) (fun _ _ => rfl)) (pe_ix ix_list (pv 2) (pe_op op_mod (pv 6) (pv 4)) (fun _ _ => rfl)) (nomark _)) (pss_one (ps_ret (pv 6))) pss_nil)))
        (pss_one (ps_ret pe_non))))), ?_⟩
    refine ⟨_, rfl, u, _, rfl, .inl (SqL.of a.us), ?_⟩
    rw [List.length_map]
    refine ⟨_, rfl, c, _, rfl, .inl (SqL.of a.cs), _, _, rfl, rfl, _, rfl, _, rfl, _, _, _, _, rfl, RgC.neg (by rw [List.length_map]; omega) (by rw [List.length_map]; omega) (by decide) (by decide), ?_⟩
    rw [List.length_map, show ((T.cs.length : Int) - 1 - -1).toNat = T.cs.length by omega]
    refine for_rangeC (lo := (T.cs.length : Int) - 1) (c := -1) (n := T.cs.length) (fun i σ H2 => ∃ x : Option V, σ = [some (.int T.lo), some (.ref c), some (.ref u), some (.ref d), some (.int T.us.length), x, none] ∧ H2 = H ∧ ∀ n, T.lo + T.cs.length - i ≤ n → T.has n = T.U n) ⟨_, rfl, rfl, fun n hn => Tl.above (by omega)⟩ ?_ ?_
    · rintro i σ H2 hi ⟨x, rfl, rfl, inv⟩
      have e1 : (T.cs.length : Int) - 1 + (i : Nat) * -1 = ((T.cs.length - 1 - i : Nat) : Int) := by omega
      rw [e1]
      have hk : T.cs.length - 1 - i < T.cs.length := by omega
      have g1 := blI_get (bs := T.cs) (i := ((T.cs.length - 1 - i : Nat) : Int)) (by omega) (by omega)
      refine ⟨_, rfl, _, rfl, c, _, _, _, rfl, rfl, SqL.of a.cs, g1, _, rfl, _, rfl, _, rfl, _, _, rfl, rfl, _, rfl, _, _, rfl, rfl, (by omega : (0 : Int) < (T.us.length : Int)), u, _, _, _, rfl, rfl, SqL.of a.us, cyc_get rfl hm, rfl, _, rfl, ?_⟩
      show if (!decide (V.bl _ = V.bl _)) = true then _ else _
      rw [vdecB]
      have cn : T.has (T.lo + ((T.cs.length - 1 - i : Nat) : Int)) = T.cs.getD (T.cs.length - 1 - i) false := by
        rw [Tl.core (by omega) (by omega)]
        congr 1
        omega
      rw [show ((T.cs.length - 1 - i : Nat) : Int).toNat = T.cs.length - 1 - i by omega, ← cn]
      by_cases q : T.has (T.lo + ((T.cs.length - 1 - i : Nat) : Int)) = T.U (T.lo + ((T.cs.length - 1 - i : Nat) : Int))
      · rw [show decide (T.has (T.lo + ((T.cs.length - 1 - i : Nat) : Int)) = cyc T.us (T.lo + ((T.cs.length - 1 - i : Nat) : Int))) = true from decide_eq_true q]
        refine iteF ⟨_, rfl, rfl, fun n hn => ?_⟩
        rcases Int.lt_or_le (T.lo + ((T.cs.length - 1 - i : Nat) : Int)) n with z | z
        · exact inv n (by omega)
        · have : n = T.lo + ((T.cs.length - 1 - i : Nat) : Int) := by omega
          rw [this]
          exact q
      · rw [show decide (T.has (T.lo + ((T.cs.length - 1 - i : Nat) : Int)) = cyc T.us (T.lo + ((T.cs.length - 1 - i : Nat) : Int))) = false from decide_eq_false q]
        refine iteT ⟨_, rfl, _, rfl, _, _, rfl, rfl, ?_⟩
        exact ks _ q (fun n hn => inv n (by omega)) (by omega)
    · rintro σ H2 ⟨x, rfl, rfl, inv⟩
      refine ⟨_, rfl, _, _, rfl, rfl, _, rfl, _, _, rfl, rfl, _, rfl, _, _, rfl, rfl, _, rfl, _, _, rfl, ?_⟩
      rw [show (T.lo - 1 - (T.lo - 1 - (T.us.length : Int))).toNat = T.us.length by omega]
      refine for_rangeC (lo := T.lo - 1) (c := -1) (n := T.us.length) (fun i σ H3 => ∃ y : Option V, σ = [some (.int T.lo), some (.ref c), some (.ref u), some (.ref d), some (.int T.us.length), x, y] ∧ H3 = H2 ∧ ∀ n, T.lo - i ≤ n → T.has n = T.U n) ⟨_, rfl, rfl, fun n hn => inv n (by omega)⟩ ?_ ?_
      · rintro i σ H3 hi ⟨y, rfl, rfl, inv2⟩
        have e1 : T.lo - 1 + (i : Nat) * -1 = T.lo - 1 - (i : Int) := by omega
        rw [e1]
        refine ⟨_, rfl, _, rfl, _, rfl, _, _, rfl, rfl, (by omega : (0 : Int) < (T.us.length : Int)), d, _, _, _, rfl, rfl, SqL.of a.ds, cyc_get (n := T.lo - 1 - (i : Int)) ok.len hm, _, rfl, _, rfl, _, rfl, _, _, rfl, rfl, (by omega : (0 : Int) < (T.us.length : Int)), u, _, _, _, rfl, rfl, SqL.of a.us, cyc_get (n := T.lo - 1 - (i : Int)) rfl hm, rfl, _, rfl, ?_⟩
        show if (!decide (V.bl _ = V.bl _)) = true then _ else _
        rw [vdecB]
        have cn : T.has (T.lo - 1 - (i : Int)) = cyc T.ds (T.lo - 1 - (i : Int)) := Tl.below (by omega)
        rw [← cn]
        by_cases q : T.has (T.lo - 1 - (i : Int)) = cyc T.us (T.lo - 1 - (i : Int))
        · rw [decide_eq_true q]
          refine iteF ⟨_, rfl, rfl, fun n hn => ?_⟩
          rcases Int.lt_or_le (T.lo - 1 - (i : Int)) n with z | z
          · exact inv2 n (by omega)
          · have : n = T.lo - 1 - (i : Int) := by omega
            rw [this]
            exact q
        · rw [decide_eq_false q]
          refine iteT ⟨_, rfl, ?_⟩
          exact ks _ q (fun n hn => inv2 n (by omega)) (by omega)
      · rintro σ H3 ⟨y, rfl, rfl, inv2⟩
        exact kn fun n => by
          rcases Int.lt_or_le n T.lo with z | z
          · exact Tl.all_above ok (Int.le_refl _) (fun n h1 h2 => inv2 n (by unfold Tl.m at h1; omega)) n z
          · exact inv2 n (by omega)
end
end My
set_option Elab.async false
set_option linter.all false
set_option maxRecDepth 100000
set_option maxHeartbeats 8000000
namespace My
open PySem PySem.Spec PyProof.Rows L2
local macro_rules | `(tactic| walk_at "lv") => `(tactic| first | exact Or.inl rfl | exact Or.inr rfl)
section
variable {P : Program} {w : World} {K : PySem.W.Frag} {mg : Str → Option Value} {base : Heap}
/-! ### _least_wrong -/
def spLW : Sp := fun vs H Q _ => ∃ (T : Tl) (c u d : Addr), vs = [.int T.lo, .ref c, .ref u, .ref d] ∧ TlAt H T c u d ∧ T.Near ∧ (∃ n, T.has n ≠ T.U n) ∧ (∀ v H', Same H H' → T.has v ≠ T.D v → (∀ n, n < v → T.has n = T.D n) → T.lo ≤ v → Q (.int v) H')
abbrev s_lw : Stmt := top 26
abbrev N_lw : List Str := ["low", "core", "ups", "downs", "many", "at", "told", "number"]
theorem sc_lw : FnScope N_lw ["low", "core", "ups", "downs"] (defScope s_lw) := ⟨rfl, rfl, rfl, by decide +kernel, rfl, by decide +kernel, by decide +kernel⟩
theorem kp_lw (F : At K mg "_least_wrong" s_lw) (N : Nb mg) : Keeps CX0 P w K mg base "_least_wrong" 1 ["low", "core", "ups", "downs"] spLW := by
  refine keeps_of F sc_lw (fun _ _ _ _ _ _ us hl => match us, hl with | [_, _, _, _], _ => rfl) (fun vs H Q E h => ?_) (fun f cdv A outer s H vs Q E hr h => ?_)
  · obtain ⟨T, c, u, d, rfl, _⟩ := h
    rfl
  · obtain ⟨T, c, u, d, rfl, a, near, ex, ks⟩ := h
    have ok := near.ok
    have hm := ok.pos
    have hm1 := near.m
    have hc1 := near.c
    have hlo := near.lo
    have hhi : T.hi = T.lo + T.cs.length - 1 := rfl
    refine ⟨_, (pss_cons (ps_set (i := 4) sc_lw.nd rfl (by walk_at "lv") (pe_callB call_len_seq (by rfl) N.len (by decide +kernel) (pa_cons (pv 3) pa_nil)))
        (pss_cons (ps_for PassesOwn.never rfl (pi_enum (by rfl) N.enumerate (pa_cons (pv 1) pa_nil)) (pg_tup (by rfl) (pgs_cons (pg_name (i := 5) sc_lw.nd rfl (by walk_at "lv")) (pgs_cons (pg_name (i := 6) sc_lw.nd rfl (by walk_at "lv")) pgs_nil))) (pss_one (ps_if (pt_cmpR op_ne (pv 6) (pe_ix ix_list (pv 3) (pe_op op_mod (pe_op op_add (pv 0) (pv 5)) (pv 4)) (fun _ _ => rfl)) (nomark _)) (pss_one (ps_ret (pe_op op_add (pv 0) (pv 5)))) pss_nil)))
        (pss_cons (ps_set (i := 7) sc_lw.nd rfl (by walk_at "lv") (pe_op op_add (pv 0) (pe_callB call_len_seq (by rfl) N.len (by decide +kernel) (pa_cons (pv 1) pa_nil))))
        (pss_cons (ps_while PassesOwn.never (pt_cmpR op_eq (pe_ix ix_list (pv 2) (pe_op op_mod (pv 7) (pv 4)) (fun _ _ => rfl)) (pe_ix ix_list (pv 3) (pe_op op_mod (pv 7) (pv 4)) (fun _ _ => rfl)) (nomark _)) (pss_one (ps_aug (i := 7) sc_lw.nd rfl (by walk_at "lv") pe_int ip_add)))
        (pss_one (ps_ret (pv 7))))))), ?_⟩
    refine ⟨_, rfl, d, _, rfl, .inl (SqL.of a.ds), ?_⟩
    rw [List.length_map, ok.len]
    refine ⟨_, rfl, c, _, rfl, SqL.of a.cs, for_it walk_enum (fun i σ H2 => ∃ x y : Option V, σ = [some (.int T.lo), some (.ref c), some (.ref u), some (.ref d), some (.int T.us.length), x, y, none] ∧ Same H H2 ∧ ∀ n, n < T.lo + i → T.has n = T.D n) ⟨_, _, rfl, Same.refl H, fun n hn => Tl.below (by omega)⟩ (fun i σ H2 _ ⟨_, _, _, s2, _⟩ => s2.seq (SqL.of a.cs)) ?_ ?_⟩
    · rintro i v σ H2 H3 hi ⟨x, y, rfl, s2, inv⟩ ⟨W, p, z, rfl, nW, rfl, e3, e4⟩
      obtain ⟨b, hb, rfl⟩ := bl_at e4
      cases Option.some.inj e3
      have s3 := same_new (o := .tup [V.int (i : Nat), V.bl b]) s2 nW
      have hic : i < T.cs.length := (List.getElem?_eq_some_iff.mp hb).1
      have cn : T.has (T.lo + (i : Int)) = b := by
        rw [Tl.core (by omega) (by omega), show (T.lo + (i : Int) - T.lo).toNat = i by omega, List.getD_eq_getElem?_getD, hb]
        rfl
      refine ⟨W, _, rfl, SqT.of upd_same, rfl, _, _, rfl, _, _, rfl, rfl, ?_⟩
      refine ⟨_, rfl, _, rfl, _, rfl, _, rfl, _, _, rfl, rfl, _, rfl, _, _, rfl, rfl, (by omega : (0 : Int) < (T.us.length : Int)), d, _, _, _, rfl, rfl, SqL.of (s3 _ _ a.ds), cyc_get (n := T.lo + (i : Int)) ok.len hm, rfl, _, rfl, ?_⟩
      show if (!decide (V.bl _ = V.bl _)) = true then _ else _
      rw [vdecB]
      by_cases q : b = cyc T.ds (T.lo + (i : Int))
      · rw [decide_eq_true q]
        refine iteF ⟨_, _, rfl, s3, fun n hn => ?_⟩
        rcases Int.lt_or_le n (T.lo + (i : Int)) with z | z
        · exact inv n z
        · have : n = T.lo + (i : Int) := by omega
          rw [this, cn]
          exact q
      · rw [decide_eq_false q]
        refine iteT ⟨_, rfl, _, rfl, _, _, rfl, rfl, ?_⟩
        exact ks _ _ s3 (by rw [cn]; exact q) inv (by omega)
    · rintro σ H2 ⟨x, y, rfl, s2, inv⟩
      rw [List.length_map] at inv
      obtain ⟨W, w1, w2, w3⟩ := Tl.parts ok ex fun n h1 h2 => inv n (by omega)
      refine ⟨_, rfl, _, rfl, c, _, rfl, .inl (SqL.of (s2 _ _ a.cs)), _, _, rfl, rfl, ?_⟩
      rw [List.length_map]
      refine while_by (fun σ H3 => ∃ n : Int, σ = [some (.int T.lo), some (.ref c), some (.ref u), some (.ref d), some (.int T.us.length), x, y, some (.int n)] ∧ H3 = H2 ∧ T.hi < n ∧ n ≤ W ∧ ∀ k, T.hi < k → k < n → T.U k = T.D k) (fun σ H3 => match σ[7]? with | some (some (V.int n)) => (W - n).toNat | _ => 0) ⟨T.lo + T.cs.length, rfl, rfl, by omega, by omega, fun k h1 h2 => by omega⟩ ?_ ?_
      · rintro σ H3 ⟨n, rfl, rfl, n1, n2, n3⟩
        refine ⟨_, rfl, _, rfl, _, rfl, _, _, rfl, rfl, (by omega : (0 : Int) < (T.us.length : Int)), u, _, _, _, rfl, rfl, SqL.of (s2 _ _ a.us), cyc_get (n := n) rfl hm, _, rfl, _, rfl, _, rfl, _, _, rfl, rfl, (by omega : (0 : Int) < (T.us.length : Int)), d, _, _, _, rfl, rfl, SqL.of (s2 _ _ a.ds), cyc_get (n := n) ok.len hm, rfl, _, rfl, ?_⟩
        rw [vdecB]
        by_cases q : cyc T.us n = cyc T.ds n
        · rw [decide_eq_true q]
          have nW : n ≠ W := fun z => w3 (by rw [← z]; exact q)
          refine iteT ⟨_, rfl, _, _, rfl, rfl, ?_⟩
          refine ⟨⟨n + 1, rfl, rfl, by omega, by omega, fun k h1 h2 => ?_⟩, (by show (W - (n + 1)).toNat < (W - n).toNat; omega)⟩
          rcases Int.lt_or_le k n with z | z
          · exact n3 k h1 z
          · have : k = n := by omega
            rw [this]
            exact q
        · rw [decide_eq_false q]
          refine iteF ⟨_, rfl, ?_⟩
          refine ks n _ s2 (by rw [Tl.above n1]; exact q) (fun k hk => ?_) (by omega)
          rcases Int.lt_or_le T.hi k with z | z
          · rw [Tl.above z]
            exact n3 k z hk
          · exact inv k (by omega)
      · rintro σ H3 Q1 Q2 hq ⟨x1, h1, x2, h2, x3, h3, i, j, e1, e2, pos, p, xs, ix, v, e3, e4, sq, at_, y1, g1, y2, g2, y3, g3, i', j', f1, f2, pos', p', xs', ix', v', f3, f4, sq', at', sc, k, ek, q⟩
        exact ⟨x1, h1, x2, h2, x3, h3, i, j, e1, e2, pos, p, xs, ix, v, e3, e4, sq, at_, y1, g1, y2, g2, y3, g3, i', j', f1, f2, pos', p', xs', ix', v', f3, f4, sq', at', sc, k, ek, hq _ _ q⟩
end
end My
set_option Elab.async false
set_option linter.all false
set_option maxRecDepth 100000
set_option maxHeartbeats 8000000
namespace My
open PySem PySem.Spec PyProof.Rows L2
local macro_rules | `(tactic| walk_at "lv") => `(tactic| first | exact Or.inl rfl | exact Or.inr rfl)
/-- the lists of numbers that tell T -/
structure Told (T : Tl) (ins us ds : List Int) : Prop where
  i : ∀ n ∈ ins, T.lo ≤ n ∧ n ≤ T.hi
  ic : ∀ k : Nat, k < T.cs.length → T.cs.getD k false = decide (T.lo + (k : Int) ∈ ins)
  u : ∀ n ∈ us, 0 ≤ n ∧ n ≤ (T.us.length : Int) - 1
  uc : ∀ k : Nat, k < T.us.length → T.us.getD k false = decide ((0 : Int) + (k : Int) ∈ us)
  d : ∀ n ∈ ds, 0 ≤ n ∧ n ≤ (T.us.length : Int) - 1
  dc : ∀ k : Nat, k < T.us.length → T.ds.getD k false = decide ((0 : Int) + (k : Int) ∈ ds)
theorem getD_ext {as bs : List Bool} (hl : as.length = bs.length) (h : ∀ k, k < as.length → as.getD k false = bs.getD k false) : as = bs := by
  refine List.ext_getElem hl fun k h1 h2 => ?_
  have := h k h1
  rw [List.getD_eq_getElem?_getD, List.getD_eq_getElem?_getD, List.getElem?_eq_getElem h1, List.getElem?_eq_getElem h2] at this
  exact this
def insOf (T : Tl) (lo hi : Int) : List Int := fil T.has lo (hi + 1 - lo).toNat
def resOf (f : Int → Bool) (d : Nat) : List Int := fil f 0 d
theorem res_take {l : List Bool} {d : Nat} (hd : d ≤ l.length) : res (l.take d) = resOf (cyc l) d := by
  have hl : (l.take d).length = d := by rw [List.length_take]; omega
  unfold res resOf
  rw [hl]
  refine fil_cong fun x h1 h2 => ?_
  have e : x = ((x.toNat : Nat) : Int) := by omega
  have q := cyc_lt (l := l) (k := x.toNat) (by omega)
  rw [← e] at q
  rw [q, List.getD_eq_getElem?_getD, List.getD_eq_getElem?_getD, List.getElem?_take, if_pos (by omega)]
/-- the made lot, or the error -/
def LotEnd (K : PySem.W.Frag) (T : Tl) (H : Hp) (Q : VK) (E : XK) : Prop :=
  (∀ p lo hi d H', IsForm T.has T.U T.D lo hi d → -20000 ≤ lo → hi ≤ 20000 → Same H H' → LotAt (He.ga K "Lot") H' p lo hi (insOf T lo hi) d (resOf T.U d) (resOf T.D d) → Q (.ref p) H') ∧
  (∀ lo hi d dd H', IsForm T.has T.U T.D lo hi d → (lo < -20000 ∨ 20000 < hi) → Same H H' → H' dd = some (.xd [("most", .int 20000)]) → E (.ref (He.ga K "TooLong")) (some dd) H')
theorem LotEnd.same {K : PySem.W.Frag} {T : Tl} {H H' : Hp} {Q : VK} {E : XK} (s : Same H H') (h : LotEnd K T H Q E) : LotEnd K T H' Q E :=
  ⟨fun p lo hi d H2 f a b s2 l => h.1 p lo hi d H2 f a b (s.trans s2) l, fun lo hi d dd H2 f a s2 e => h.2 lo hi d dd H2 f a (s.trans s2) e⟩
def spLotOf (K : PySem.W.Frag) : Sp := fun vs H Q E => ∃ (T : Tl) (a b c : Addr) (ins us ds : List Int), vs = [.int T.lo, .int T.hi, .ref a, .int T.us.length, .ref b, .ref c] ∧ T.Near ∧ T.cs.length < 60000 ∧ Told T ins us ds ∧ SqA H a (ins.map V.int) ∧ SqA H b (us.map V.int) ∧ SqA H c (ds.map V.int) ∧ LotEnd K T H Q E
abbrev s_lotof : Stmt := top 20
abbrev N_lotof : List Str := ["low", "high", "inside", "modulus", "ups", "downs", "ups_flags", "downs_flags", "core", "top", "bottom", "number"]
theorem sc_lotof : FnScope N_lotof ["low", "high", "inside", "modulus", "ups", "downs"] (defScope s_lotof) := ⟨rfl, rfl, rfl, by decide +kernel, rfl, by decide +kernel, by decide +kernel⟩
/-- what the walks ask of the class Lot and of TooLong -/
structure Lots (P : Program) (w : World) (K : PySem.W.Frag) (mg : Str → Option Value) (base : Heap) : Prop where
  t : LotTxt K mg (He.ga K "Lot")
  m : Mk K (He.ga K "Lot") (He.ma K (He.ga K "Lot") "__init__")
  i : KeepsM P w K mg base (He.ma K (He.ga K "Lot") "__init__") 1 ["self", "low", "high", "inside", "modulus", "ups", "downs"] (spLotI (He.ga K "Lot"))
  xt : ExF K mg "TooLong" "BookError" ["most"]
  xi : KeepsI P w K mg base "TooLong" ["most"]
theorem pmk_tl {X : Cx} {k : Nat} {e : Expr} {es : List Expr} {ta : TA} {p pos : Pos} (S : Lots X.prog X.w X.K X.mg X.base) (hr : Room (k + 2) X.A) (hg : Gl X "TooLong") (ha : PA X (e :: es) ta)
    (dbg : (("TooLong" : Str) == ("__debug__" : Str)) = false := by decide) (hst : starEach (e :: es) X.env = (false, eval e X.env) :: starEach es X.env := by rfl) (hpl : (backTo pos (starEach es X.env)).any (·.1) = false := by rfl) :
    PMk X (.Call (.Name "TooLong" p) (e :: es) [] pos) (tMkO (He.ga X.K "TooLong") (spIni (He.ga X.K "TooLong") ["most"]) [] ta) := by
  obtain ⟨fd, F, b⟩ := S.xi
  obtain ⟨iC, tI⟩ := S.xt.ini (fun z => nomatch z)
  exact pmk_oex S.xt.ox iC tI F (hr.mono (by omega)) b .nil pass0 hg S.xt.g ha dbg hst hpl
/-- the reading of the making, with the way out -/
theorem mko_ok {K : PySem.W.Frag} {C : Addr} {fs : List Str} {ta : TA} {σ : L2.St} {H : Hp} {W : XK} {ys : List V} (ht : ∀ Q : List V → Hp → Prop, Q ys H → ta σ H Q) (hl : ys.length = fs.length) (h9 : ys.length ≤ 1000)
    (hW : ∀ d H', Same H H' → H' d = some (.xd (fs.zip ys).reverse) → W (.ref C) (some d) H') : tMkO C (spIni C fs) [] ta σ H W := by
  refine ht _ ⟨h9, fun a ha => ⟨a, ys, (by rw [List.append_nil]), hl, upd_same, fun d H' hd hne e1 e2 k1 => ⟨rfl, d, _, e1, e2, ?_, ?_⟩⟩⟩
  · rw [upd_ne hne] at hd
    exact hd
  · refine hW d _ (fun b o z => ?_) upd_same
    have nba : b ≠ a := ne_of_none z ha
    have nbd : b ≠ d := fun q => by
      rw [upd_ne hne] at hd
      rw [q, hd] at z
      cases z
    rw [upd_ne nbd, del_ne nba]
    exact k1 b o nba (by rw [upd_ne nba]; exact z)
section
variable {P : Program} {w : World} {K : PySem.W.Frag} {mg : Str → Option Value} {base : Heap}
theorem kp_lotof (F : At K mg "_lot_of" s_lotof) (N : Nb mg) (S : Lots P w K mg base) (mF : ∃ t, mg "FARTHEST" = some (.int 20000 t)) (Gf : Keeps CX0 P w K mg base "_flags" 1 ["low", "high", "numbers"] spFlags) (Gm : Keeps CX0 P w K mg base "_least_modulus" 2 ["ups", "downs"] spLM)
    (Gg : Keeps CX0 P w K mg base "_greatest_wrong" 1 ["low", "core", "ups", "downs"] spGW) (Gl_ : Keeps CX0 P w K mg base "_least_wrong" 1 ["low", "core", "ups", "downs"] spLW) (Gp : Keeps CX0 P w K mg base "_places_of" 1 ["flags"] spPlaces) :
    Keeps (CX P w) P w K mg base "_lot_of" 3 ["low", "high", "inside", "modulus", "ups", "downs"] (spLotOf K) := by
  refine keeps_ofX F sc_lotof (fun _ _ _ _ _ _ us hl => match us, hl with | [_, _, _, _, _, _], _ => rfl) (fun vs H Q E h => ?_) (fun f cdv A outer s H vs Q E hr h => ?_)
  · obtain ⟨T, a, b, c, ins, us, ds, rfl, _⟩ := h
    rfl
  · obtain ⟨T, a, b, c, ins, us, ds, rfl, near, hc9, told, ha, hb, hc, k⟩ := h
    obtain ⟨fdI, FI, bI⟩ := S.i
    obtain ⟨tF, mF⟩ := mF
    have hu := hu_of hr
    have hm := near.ok.pos
    have hm1 := near.m
    have hlo := near.lo
    have hhi : T.hi = T.lo + T.cs.length - 1 := rfl
    obtain ⟨tl, dtl, tail⟩ : ∃ tl, PSs (cxOf (CX P w) P w K mg base N_lotof "_lot_of" (defScope s_lotof) f cdv A outer s H E) ((defBody s_lotof).drop 8) tl ∧ ∀ (H1 : Hp) (lo hi : Int) (d : Nat) (p3 q1 q2 : Addr), IsForm T.has T.U T.D lo hi d → d ≤ T.us.length → -(3 * 10 ^ 31) ≤ lo → lo ≤ 3 * 10 ^ 31 → -(3 * 10 ^ 31) ≤ hi → hi ≤ 3 * 10 ^ 31 → hi + 1 - lo < 60000 →
        (∀ n, lo ≤ n → n ≤ hi → T.lo ≤ n ∧ n ≤ T.hi) → Same H H1 → H1 p3 = some (.lst (T.cs.map V.bl)) → H1 q1 = some (.lst ((T.us.take d).map V.bl)) → H1 q2 = some (.lst ((T.ds.take d).map V.bl)) →
        tl { nx := fun _ H' => Q .non H', rt := Q } [some (V.int T.lo), some (V.int T.hi), some (V.ref a), some (V.int d), some (V.ref b), some (V.ref c), some (V.ref q1), some (V.ref q2), some (V.ref p3), some (V.int hi), some (V.int lo), none] H1 := by
      refine ⟨_, (pss_cons (ps_if (PW.pt (pw_or (pt_cmpR op_lt (pv 10) (pe_un un_neg (pe_glob (v := .int 20000) (by rfl) mF ⟨_, rfl⟩)) (nomark _)) (pw_or1 (pt_cmpR op_gt (pv 9) (pe_glob (v := .int 20000) (by rfl) mF ⟨_, rfl⟩) (nomark _))))) (pss_one (ps_raise rfl (takes_of rfl rfl rfl rfl) (by exact pmk_tl S hr (by rfl) (pa_cons (pe_glob (v := .int 20000) (by rfl) mF ⟨_, rfl⟩) pa_nil)))) pss_nil)
        (pss_cons (ps_setLc (i := 2) (own := [("number", 11)]) (g := gName 11) rfl sc_lotof.nd rfl rfl (sw_true rfl rfl rfl (by decide +kernel)) (pi_range2 (by rfl) N.range (pa_cons (pv 10) (pa_cons (pe_op op_add (pv 9) pe_int) pa_nil))) (blkOk_by (N := N_lotof) (sc := defScope s_lotof) (by decide +kernel)) (fun _ _ _ _ _ => (pg_name (i := 11) sc_lotof.nd rfl (by walk_at "lv"))) (fun _ _ _ _ _ => (pts_one (pt_val (pe_ix ix_list (r := rIxL K) (pv 8) (pe_op op_sub (pv 11) (pv 0)) (fun _ _ => rfl))))) (fun _ _ _ _ _ => (pv 11)))
        (pss_one (ps_ret (pe_make S.m FI (hr.mono (by decide)) (by rfl) S.t.mgC bI .nil pass0 (pa_cons (pv 10) (pa_cons (pv 9) (pa_cons (pv 2) (pa_cons (pv 3) (pa_cons (pe_k Gp (hr.mono (by decide)) (by rfl) pass0 (pa_cons (pv 6) pa_nil)) (pa_cons (pe_k Gp (hr.mono (by decide)) (by rfl) pass0 (pa_cons (pv 7) pa_nil)) pa_nil))))))))))), ?_⟩
      intro H1 lo hi d p3 q1 q2 fm hd b1 b2 b3 b4 b5 sub s1 e3 e1 e2
      refine ⟨_, rfl, _, rfl, _, _, rfl, rfl, _, rfl, ?_⟩
      have boom : (lo < -20000 ∨ 20000 < hi) → tMkO (He.ga K "TooLong") (spIni (He.ga K "TooLong") ["most"]) [] (tCons (tC (.int 20000)) tNil) [some (V.int T.lo), some (V.int T.hi), some (V.ref a), some (V.int d), some (V.ref b), some (V.ref c), some (V.ref q1), some (V.ref q2), some (V.ref p3), some (V.int hi), some (V.int lo), none] H1 (fun cls d H' => E cls d H') := fun hx =>
        mko_ok (K := K) (ys := [.int 20000]) (fun _ q => q) rfl (by show 1 ≤ 1000; decide) fun dd H' s2 ed => k.2 lo hi d dd H' fm hx (s1.trans s2) ed
      refine ite2 (fun h1 => boom (.inl (of_decide_eq_true h1))) (fun h1 => ?_)
      have h1 : ¬ lo < -20000 := fun z => h1 (decide_eq_true z)
      refine ⟨_, rfl, _, _, rfl, rfl, _, rfl, ?_⟩
      refine ite2 (fun h2 => boom (.inr (of_decide_eq_true h2))) (fun h2 => ?_)
      have h2 : ¬ 20000 < hi := fun z => h2 (decide_eq_true z)
      have hz := fm.size
      refine ⟨_, rfl, _, rfl, _, _, rfl, rfl, _, _, rfl, ⟨by omega, by omega, by omega, by omega⟩, fun D hD => ?_⟩
      refine lc_itF (G := fun _ => True) walk_range hD (fun i => (fil T.has lo i).map V.int) rfl (fun i hi' => smallB (by rw [List.length_map]; exact Nat.le_trans (fil_len _ _ _) (by omega))) (fun _ _ => trivial) ?_ ?_ ?_ ?_ ?_
      · rintro i x H2 H3 hi' eD s2 ⟨rfl, rfl⟩
        have sb := sub (lo + (i : Int)) (by omega) (by omega)
        have g : atI (T.cs.map V.bl) (lo + (i : Int) - T.lo) = some (.bl (T.has (lo + (i : Int)))) := by
          rw [blI_get (by omega) (by omega), Tl.core sb.1 sb.2]
        refine ⟨rfl, _, rfl, _, rfl, _, rfl, _, _, rfl, rfl, p3, _, _, _, rfl, rfl, SqL.of (s2 _ _ e3), g, _, rfl, ?_⟩
        cases hb' : T.has (lo + (i : Int)) with
        | false =>
          refine iteF ⟨eD, s2, ?_⟩
          rw [fil_neg (by rw [hb']; exact Bool.false_ne_true)]
        | true =>
          refine iteT ⟨_, rfl, eD, s2, ?_⟩
          rw [fil_pos hb', List.map_append]
          rfl
      · exact fun x H' Q Q' h q => h _ _ q
      · rintro σ2 H2 Q1 Q2 h ⟨x1, h1, x2, h2, x3, h3, i, j, f1, f2, p, xs, ii, v, f3, f4, sq, at_, k, ek, q⟩
        exact ⟨x1, h1, x2, h2, x3, h3, i, j, f1, f2, p, xs, ii, v, f3, f4, sq, at_, k, ek, h _ _ q⟩
      · rintro σ2 H2 Q1 Q2 h ⟨v, hv, q⟩
        exact ⟨v, hv, h _ _ q⟩
      · intro H4 eD s4
        have ht : ∀ l : List Bool, (l.take d).length ≤ d := fun l => by rw [List.length_take]; omega
        have htu := ht T.us
        have htd := ht T.ds
        refine ⟨_, rfl, _, rfl, _, rfl, _, rfl, _, rfl, q1, T.us.take d, rfl, s4 _ _ e1, by omega, fun r1 H5 n5 s5 e5 => ?_⟩
        refine ⟨_, rfl, q2, T.ds.take d, rfl, s5 _ _ (s4 _ _ e2), by omega, fun r2 H6 n6 s6 e6 => ?_⟩
        intro x dx hx hdx ne
        have sx : ∀ b o, H6 b = some o → (upd (upd H6 dx (.own x)) x (.ins (He.ga K "Lot") dx [])) b = some o := fun b o e => by
          rw [upd_ne (ne_of_none e hx), upd_ne (ne_of_none e hdx)]
          exact e
        refine ⟨x, dx, D, r1, r2, lo, hi, d, insOf T lo hi, resOf T.U d, resOf T.D d, rfl, upd_same, sx _ _ (s6 _ _ (s5 _ _ eD)), ?_, ?_, fun H7 la keep => ⟨rfl, ?_⟩⟩
        · refine sx _ _ (s6 _ _ ?_)
          rw [e5, res_take hd]
          rfl
        · refine sx _ _ ?_
          rw [e6, res_take (by rw [near.ok.len]; exact hd)]
          rfl
        · refine k.1 x lo hi d H7 fm (by omega) (by omega) (fun b o e => ?_) la
          have e' := s6 _ _ (s5 _ _ (s4 _ _ (s1 _ _ e)))
          exact keep b o (ne_of_none e' hx) (sx _ _ e')
    refine ⟨_, (pss_cons (ps_set (i := 6) sc_lotof.nd rfl (by walk_at "lv") (pe_k Gf (hr.mono (by decide)) (by rfl) pass0 (pa_cons pe_int (pa_cons (pe_op op_sub (pv 3) pe_int) (pa_cons (pv 4) pa_nil)))))
        (pss_cons (ps_set (i := 7) sc_lotof.nd rfl (by walk_at "lv") (pe_k Gf (hr.mono (by decide)) (by rfl) pass0 (pa_cons pe_int (pa_cons (pe_op op_sub (pv 3) pe_int) (pa_cons (pv 5) pa_nil)))))
        (pss_cons (ps_set (i := 8) sc_lotof.nd rfl (by walk_at "lv") (pe_k Gf (hr.mono (by decide)) (by rfl) pass0 (pa_cons (pv 0) (pa_cons (pv 1) (pa_cons (pv 2) pa_nil)))))
        (pss_cons (ps_set (i := 3) sc_lotof.nd rfl (by walk_at "lv") (pe_k Gm hr (by rfl) pass0 (pa_cons (pv 6) (pa_cons (pv 7) pa_nil))))
        (pss_cons (ps_set (i := 6) sc_lotof.nd rfl (by walk_at "lv") (pe_slice sl_list (pv 6) po_none (po_some (pv 3))))
        (pss_cons (ps_set (i := 7) sc_lotof.nd rfl (by walk_at "lv") (pe_slice sl_list (pv 7) po_none (po_some (pv 3))))
        (pss_cons (ps_set (i := 9) sc_lotof.nd rfl (by walk_at "lv") (pe_k Gg (hr.mono (by decide)) (by rfl) pass0 (pa_cons (pv 0) (pa_cons (pv 8) (pa_cons (pv 6) (pa_cons (pv 7) pa_nil))))))
        (pss_cons (ps_if (pt_cmpR op_isN (pv 9) pe_non (nomark _)) (pss_one (ps_asg (pe_tup (pa_cons pe_int (pa_cons (pe_un un_neg pe_int) pa_nil))) (pg_tup (by rfl) (pgs_cons (pg_name (i := 10) sc_lotof.nd rfl (by walk_at "lv")) (pgs_cons (pg_name (i := 9) sc_lotof.nd rfl (by walk_at "lv")) pgs_nil))))) (pss_one (ps_set (i := 10) sc_lotof.nd rfl (by walk_at "lv") (pe_callB (call_min2 rfl) (by rfl) N.min (by decide +kernel) (pa_cons (pe_k Gl_ (hr.mono (by decide)) (by rfl) pass0 (pa_cons (pv 0) (pa_cons (pv 8) (pa_cons (pv 6) (pa_cons (pv 7) pa_nil))))) (pa_cons (pe_op op_add (pv 9) pe_int) pa_nil))))))
        dtl)))))))), ?_⟩
    refine ⟨_, rfl, _, _, rfl, rfl, _, rfl, b, us, _, _, rfl, hb, by omega, by omega, by omega, by omega, told.u, fun p1 bs1 H1 n1 s1 e1 l1 g1 => ?_⟩
    have eb1 : bs1 = T.us := getD_ext (by omega) fun k hk => by rw [g1 k hk, told.uc k (by omega)]
    subst eb1
    refine ⟨_, rfl, _, _, rfl, rfl, _, rfl, c, ds, _, _, rfl, hc.same s1, by omega, by omega, by omega, by omega, told.d, fun p2 bs2 H2 n2 s2 e2 l2 g2 => ?_⟩
    have eb2 : bs2 = T.ds := getD_ext (by rw [near.ok.len]; omega) fun k hk => by rw [g2 k hk, told.dc k (by omega)]
    subst eb2
    refine ⟨_, rfl, _, rfl, _, rfl, a, ins, _, _, rfl, (ha.same s1).same s2, by omega, by omega, by omega, by omega, told.i, fun p3 bs3 H3 n3 s3 e3 l3 g3 => ?_⟩
    have eb3 : bs3 = T.cs := getD_ext (by omega) fun k hk => by rw [g3 k hk, told.ic k (by omega)]
    subst eb3
    refine ⟨_, rfl, _, rfl, p1, p2, T.us, T.ds, rfl, s3 _ _ (s2 _ _ e1), s3 _ _ e2, near.ok.len, hm, hm1, fun H4 d s4 ld hd => ?_⟩
    have cut : ∀ l : List Bool, d ≤ l.length → cutV (l.map V.bl) none (some (d : Int)) = (l.take d).map V.bl := fun l hl => by
      unfold cutV
      rw [HT.sIx_none, HT.sIx_nat, List.drop_zero, List.length_map, Nat.min_eq_left hl, List.map_take]
      rfl
    refine ⟨_, rfl, _, rfl, _, rfl, p1, _, rfl, SqL.of (s4 _ _ (s3 _ _ (s2 _ _ e1))), fun q1 hq1 => ?_⟩
    rw [cut _ hd]
    have s5 := same_new (o := .lst ((T.us.take d).map V.bl)) s4 hq1
    refine ⟨_, rfl, _, rfl, _, rfl, p2, _, rfl, SqL.of (s5 _ _ (s3 _ _ e2)), fun q2 hq2 => ?_⟩
    rw [cut _ (by rw [near.ok.len]; exact hd)]
    have s6 := same_new (o := .lst ((T.ds.take d).map V.bl)) s5 hq2
    have s36 : Same H _ := (s1.trans (s2.trans s3)).trans s6
    have hq12 : q1 ≠ q2 := ne_of_none upd_same hq2
    have d0 := ld.pos
    have eU : cyc (T.us.take d) = cyc T.us := cyc_take d0 hd ld.pu
    have eD : cyc (T.ds.take d) = cyc T.ds := cyc_take d0 (by rw [near.ok.len]; exact hd) ld.pd
    have eH : (Tl.mk T.lo T.cs (T.us.take d) (T.ds.take d)).has = T.has := by
      funext n
      unfold Tl.has Tl.U Tl.D
      simp only [eU, eD]
      rfl
    have lu : (T.us.take d).length = d := by rw [List.length_take]; omega
    have lds : (T.ds.take d).length = d := by rw [List.length_take, near.ok.len]; omega
    have near' : (Tl.mk T.lo T.cs (T.us.take d) (T.ds.take d)).Near := ⟨⟨by show (T.ds.take d).length = (T.us.take d).length; rw [lu, lds], by show 0 < (T.us.take d).length; rw [lu]; exact d0⟩, by show (T.us.take d).length ≤ 60000; omega, near.c, near.lo⟩
    have at' : TlAt (upd (upd H4 q1 (.lst ((T.us.take d).map V.bl))) q2 (.lst ((T.ds.take d).map V.bl))) (Tl.mk T.lo T.cs (T.us.take d) (T.ds.take d)) p3 q1 q2 := ⟨s6 _ _ e3, by rw [upd_ne hq12]; exact upd_same, upd_same⟩
    refine ⟨_, rfl, _, rfl, _, rfl, _, rfl, Tl.mk T.lo T.cs (T.us.take d) (T.ds.take d), p3, q1, q2, rfl, at', near', fun no => ?_, fun v h1 h2 h3 => ?_⟩
    · have no' : ∀ n, T.has n = T.U n := fun n => by
        have := no n
        rw [eH] at this
        rw [this]
        show cyc (T.us.take d) n = cyc T.us n
        rw [eU]
      refine ⟨_, rfl, rfl, _, rfl, iteT ?_⟩
      refine ⟨_, rfl, ⟨(by show 2 ≤ sizeLine; decide), fun t ht => ⟨t, _, rfl, SqT.of upd_same, rfl, _, _, rfl, _, _, rfl, rfl, ?_⟩⟩⟩
      have s7 := same_new (o := .tup [V.int 0, V.int (-1)]) s36 ht
      have st := same_new (o := .tup [V.int 0, V.int (-1)]) (Same.refl _) ht
      exact tail _ 0 (-1) d p3 q1 q2 (form_none near.ok ld no') hd (by omega) (by omega) (by omega) (by omega) (by omega) (fun n h1 h2 => by omega) s7 (st _ _ at'.cs) (st _ _ at'.us) (st _ _ at'.ds)
    · have h1' : T.has v ≠ T.U v := fun z => h1 (by
        rw [eH, z]
        show cyc T.us v = cyc (T.us.take d) v
        rw [eU])
      have h2' : ∀ n, v < n → T.has n = T.U n := fun n hn => by
        have := h2 n hn
        rw [eH] at this
        rw [this]
        show cyc (T.us.take d) n = cyc T.us n
        rw [eU]
      have h3' : v ≤ T.hi := h3
      refine ⟨_, rfl, rfl, _, rfl, iteF ?_⟩
      refine ⟨_, rfl, _, rfl, _, rfl, _, rfl, Tl.mk T.lo T.cs (T.us.take d) (T.ds.take d), p3, q1, q2, rfl, at', near', ⟨v, h1⟩, fun b H7 s7 b1 b2 b3 => ?_⟩
      refine ⟨_, rfl, _, _, rfl, rfl, _, _, rfl, ?_⟩
      have b1' : T.has b ≠ T.D b := fun z => b1 (by
        rw [eH, z]
        show cyc T.ds b = cyc (T.ds.take d) b
        rw [eD])
      have b2' : ∀ n, n < b → T.has n = T.D n := fun n hn => by
        have := b2 n hn
        rw [eH] at this
        rw [this]
        show cyc (T.ds.take d) n = cyc T.ds n
        rw [eD]
      have b3' : T.lo ≤ b := b3
      have vlo : T.lo - T.m ≤ v := by
        rcases Int.lt_or_le v (T.lo - T.m) with q | q
        · refine absurd ?_ h1'
          have hm2 : (0 : Int) < (T.m : Int) := by unfold Tl.m; omega
          have q1 := h2' (v + T.m) (by omega)
          rw [Tl.below (by omega), near.ok.pd, near.ok.pu] at q1
          rw [Tl.below (by omega)]
          exact q1
        · exact q
      have hmm : T.m = T.us.length := rfl
      have fm := form_some ld h1' h2' b1' b2'
      refine tail H7 (if v + 1 < b then v + 1 else b) v d p3 q1 q2 fm hd ?_ ?_ (by omega) (by omega) ?_ ?_ (s36.trans s7) (s7 _ _ at'.cs) (s7 _ _ at'.us) (s7 _ _ at'.ds)
      · split <;> omega
      · split <;> omega
      · split <;> omega
      · intro n hn1 hn2
        split at hn1 <;> omega
end
end My
set_option Elab.async false
set_option linter.all false
set_option maxRecDepth 100000
set_option maxHeartbeats 8000000
namespace My
open PySem PySem.Spec PyProof.Rows L2
local macro_rules | `(tactic| walk_at "lv") => `(tactic| first | exact Or.inl rfl | exact Or.inr rfl)
/-- a telling stands at t -/
structure TellAt (H : Hp) (t : Addr) (T : Tl) (c u d : Addr) : Prop where
  t : H t = some (.lst [.int T.lo, .int T.hi, .ref c, .int T.us.length, .ref u, .ref d])
  l : TlAt H T c u d
theorem TellAt.same {H H' : Hp} {t : Addr} {T : Tl} {c u d : Addr} (s : Same H H') (h : TellAt H t T c u d) : TellAt H' t T c u d := ⟨s _ _ h.t, h.l.same s⟩
theorem erase_map {α β : Type} (f : α → β) : ∀ (xs : List α) (k : Nat), (xs.map f).eraseIdx k = (xs.eraseIdx k).map f
  | [], _ => rfl
  | _ :: _, 0 => rfl
  | x :: r, k + 1 => by
    show f x :: (r.map f).eraseIdx k = f x :: (r.eraseIdx k).map f
    rw [erase_map f r k]
theorem log_small {n : Nat} (h : n ≤ 60000) : (n : Int).natAbs.log2 < 9000 := by
  have h2 : (n : Int).natAbs < 2 ^ 16 := by omega
  rcases Nat.eq_zero_or_pos (n : Int).natAbs with h0 | h0
  · rw [h0]; decide
  · have := (Nat.log2_lt (by omega)).mpr h2
    omega
theorem perm_erase {α : Type} : ∀ {xs : List α} {k : Nat} (h : k < xs.length), ([xs[k]] ++ xs.eraseIdx k).Perm xs
  | x :: r, 0, _ => List.Perm.refl _
  | x :: r, k + 1, h => by
    have h' : k < r.length := by simpa using h
    show ([r[k]] ++ (x :: r.eraseIdx k)).Perm (x :: r)
    exact (List.Perm.swap _ _ _).trans ((perm_erase h').cons x)
section
variable {P : Program} {w : World} {K : PySem.W.Frag} {mg : Str → Option Value} {base : Heap}
/-! ### _law_whole -/
abbrev s_lwh : Stmt := top 41
abbrev N_lwh : List Str := ["_law_thing"]
theorem sc_lwh : FnScope N_lwh ["_law_thing"] (defScope s_lwh) := ⟨rfl, rfl, rfl, by decide +kernel, rfl, by decide +kernel, by decide +kernel⟩
theorem kp_lwh (F : At K mg "_law_whole" s_lwh) (N : Nb mg) : Keeps CX0 P w K mg base "_law_whole" 1 ["_law_thing"] spWhole := by
  refine keeps_of F sc_lwh (fun _ _ _ _ _ _ us hl => match us, hl with | [_], _ => rfl) (fun vs H Q E h => ?_) (fun f cdv A outer s H vs Q E hr h => ?_)
  · obtain ⟨a, rfl, _⟩ := h
    rfl
  · obtain ⟨a, rfl, k⟩ := h
    refine ⟨_, (pss_one (ps_ret (pe_and (pe_callB call_isi (by rfl) N.isinstance boot_isinstance (pa_cons (pv 0) (pa_cons (pe_bltn (v := .ty "int") (by rfl) N.int (by decide +kernel) rfl) pa_nil))) (pe_one (pe_not (pe_callB call_isi (by rfl) N.isinstance boot_isinstance (pa_cons (pv 0) (pa_cons (pe_bltn (v := .ty "bool") (by rfl) N.bool (by decide +kernel) rfl) pa_nil)))))))), ?_⟩
    refine ⟨_, rfl, .int a, .ty "int", _, _, true, rfl, .ty "int", .base (.int a), kit_ty (by decide +kernel), _, rfl, ?_⟩
    exact ⟨_, rfl, .int a, .ty "bool", _, _, false, rfl, .ty "bool", .base (.int a), kit_ty (by decide +kernel), _, rfl, k⟩
/-! ### _law_row_of -/
def spRow : Sp := fun vs H Q _ => ∃ (a : Addr) (ns : List Int) (lo hi : Int), vs = [.ref a, .int lo, .int hi] ∧ H a = some (.tup (ns.map V.int)) ∧ ns.Pairwise (· < ·) ∧ (∀ n ∈ ns, lo ≤ n ∧ n ≤ hi) ∧ Q (.bl true) H
abbrev s_row : Stmt := top 42
abbrev N_row : List Str := ["_law_thing", "_law_low", "_law_high", "_law_last", "_law_number"]
theorem sc_row : FnScope N_row ["_law_thing", "_law_low", "_law_high"] (defScope s_row) := ⟨rfl, rfl, rfl, by decide +kernel, rfl, by decide +kernel, by decide +kernel⟩
theorem kp_row (F : At K mg "_law_row_of" s_row) (G : Keeps CX0 P w K mg base "_law_whole" 1 ["_law_thing"] spWhole) (N : Nb mg) : Keeps CX0 P w K mg base "_law_row_of" 2 ["_law_thing", "_law_low", "_law_high"] spRow := by
  refine keeps_of F sc_row (fun _ _ _ _ _ _ us hl => match us, hl with | [_, _, _], _ => rfl) (fun vs H Q E h => ?_) (fun f cdv A outer s H vs Q E hr h => ?_)
  · obtain ⟨a, ns, lo, hi, rfl, _⟩ := h
    rfl
  · obtain ⟨a, ns, lo, hi, rfl, ha, asc, hb, k⟩ := h
    refine ⟨_, (pss_cons (ps_if (pt_not (pt_val (pe_callB call_isi (by rfl) N.isinstance boot_isinstance (pa_cons (pv 0) (pa_cons (pe_bltn (v := .ty "tuple") (by rfl) N.tuple (by decide +kernel) rfl) pa_nil))))) (pss_one (ps_ret pe_bl)) pss_nil)
        (pss_cons (ps_set (i := 3) sc_row.nd rfl (by walk_at "lv") (pe_op op_sub (pv 1) pe_int))
        (pss_cons (ps_for PassesOwn.never rfl (pi_tup (pv 0)) (pg_name (i := 4) sc_row.nd rfl (by walk_at "lv")) (pss_cons (ps_if (PW.pt (pw_or (pt_not (pt_val (pe_k G hr (by rfl) pass0 (pa_cons (pv 4) pa_nil)))) (pw_or (pt_cmpR op_le (pv 4) (pv 3) (nomark _)) (pw_or1 (pt_cmpR op_gt (pv 4) (pv 2) (nomark _)))))) (pss_one (ps_ret pe_bl)) pss_nil) (pss_one (ps_set (i := 3) sc_row.nd rfl (by walk_at "lv") (pv 4)))))
        (pss_one (ps_ret pe_bl))))), ?_⟩
    refine ⟨_, rfl, .ref a, .ty "tuple", _, _, true, rfl, .ty "tuple", .base (.tup ha), kit_ty (by decide +kernel), _, rfl, iteF ?_⟩
    refine ⟨_, rfl, _, _, rfl, rfl, ?_⟩
    refine ⟨_, rfl, a, rfl, ⟨_, SqT.of ha⟩, for_it (walk_tup (K := K) (a := a) (xs := ns.map V.int)) (fun i σ H2 => ∃ (x : Option V) (last : Int), σ = [some (.ref a), some (.int lo), some (.int hi), some (.int last), x] ∧ H2 = H ∧ ∀ n ∈ ns.drop i, last < n) ⟨_, lo - 1, rfl, rfl, fun n hn => by have := (hb n (List.mem_of_mem_drop hn)).1; omega⟩ (fun i σ H2 _ ⟨_, _, _, e, _⟩ => by rw [e]; exact SqT.of ha) ?_ ?_⟩
    · rintro i v σ H2 H3 hi' ⟨x, last, rfl, rfl, inv⟩ ⟨rfl, e4⟩
      obtain ⟨n, hn, rfl⟩ := int_at e4
      obtain ⟨hi3, hi4⟩ := List.getElem?_eq_some_iff.mp hn
      have hd : ns.drop i = n :: ns.drop (i + 1) := by rw [List.drop_eq_getElem_cons hi3, hi4]
      have h1 := inv n (by rw [hd]; exact List.mem_cons_self)
      have h2 := hb n (List.mem_of_getElem? hn)
      refine ⟨_, rfl, n, rfl, _, rfl, iteF ⟨_, rfl, _, rfl, _, _, rfl, rfl, _, rfl, ?_⟩⟩
      rw [decide_eq_false (by omega : ¬ n ≤ last)]
      refine iteF ⟨_, rfl, _, rfl, _, _, rfl, rfl, _, rfl, ?_⟩
      rw [decide_eq_false (by omega : ¬ n > hi)]
      refine iteF ⟨_, rfl, _, n, rfl, rfl, fun m hm => ?_⟩
      have as2 := asc.sublist (List.drop_sublist i ns)
      rw [hd] at as2
      exact (List.pairwise_cons.mp as2).1 m hm
    · rintro σ H2 ⟨x, last, rfl, rfl, _⟩
      exact k
/-! ### _law_turned -/
theorem HandC.ne {H : Hp} {p c q : Addr} (h : HandC H p c) (hq : H q = none) : p ≠ q ∧ c ≠ q := by
  obtain ⟨_, _, _, _, h1, h2, _⟩ := h
  exact ⟨ne_of_none h1 hq, ne_of_none h2 hq⟩
theorem HandC.upd {H : Hp} {p c q : Addr} {o : HO} (h : HandC H p c) (h1 : p ≠ q) (h2 : c ≠ q) : HandC (upd H q o) p c := by
  obtain ⟨cs, i, r, t, e1, e2, e3⟩ := h
  exact ⟨cs, i, r, t, by rw [upd_ne h1]; exact e1, by rw [upd_ne h2]; exact e2, e3⟩
theorem HandC.same {H H' : Hp} {p c : Addr} (s : Same H H') (h : HandC H p c) : HandC H' p c := by
  obtain ⟨cs, i, r, t, e1, e2, e3⟩ := h
  exact ⟨cs, i, r, t, s _ _ e1, s _ _ e2, e3⟩
theorem But.of {p : Addr} {H H' : Hp} (s : Same H H') : But p H H' := fun b o _ e => s b o e
theorem But.trans {p : Addr} {H H1 H2 : Hp} (a : But p H H1) (b : But p H1 H2) : But p H H2 := fun c o hc e => b c o hc (a c o hc e)
/-! ### _law_has -/
def spHas : Sp := fun vs H Q _ => ∃ (t c u d : Addr) (T : Tl) (n : Int), vs = [.ref t, .int n] ∧ TellAt H t T c u d ∧ T.Ok ∧ Q (.bl (T.has n)) H
abbrev s_has : Stmt := top 44
abbrev N_has : List Str := ["_law_telling", "_law_number", "_law_low", "_law_high", "_law_core", "_law_modulus", "_law_ups", "_law_downs"]
theorem sc_has : FnScope N_has ["_law_telling", "_law_number"] (defScope s_has) := ⟨rfl, rfl, rfl, by decide +kernel, rfl, by decide +kernel, by decide +kernel⟩
theorem kp_has (F : At K mg "_law_has" s_has) (N : Nb mg) : Keeps CX0 P w K mg base "_law_has" 1 ["_law_telling", "_law_number"] spHas := by
  refine keeps_of F sc_has (fun _ _ _ _ _ _ us hl => match us, hl with | [_, _], _ => rfl) (fun vs H Q E h => ?_) (fun f cdv A outer s H vs Q E hr h => ?_)
  · obtain ⟨t, c, u, d, T, n, rfl, _⟩ := h
    rfl
  · obtain ⟨t, c, u, d, T, n, rfl, a, ok, k⟩ := h
    have hm := ok.pos
    have hm' : (0 : Int) < (T.us.length : Int) := by omega
    refine ⟨_, (pss_cons (ps_asg (pv 0) (pg_unl (by rfl) (pgs_cons (pg_name (i := 2) sc_has.nd rfl (by walk_at "lv")) (pgs_cons (pg_name (i := 3) sc_has.nd rfl (by walk_at "lv")) (pgs_cons (pg_name (i := 4) sc_has.nd rfl (by walk_at "lv")) (pgs_cons (pg_name (i := 5) sc_has.nd rfl (by walk_at "lv")) (pgs_cons (pg_name (i := 6) sc_has.nd rfl (by walk_at "lv")) (pgs_cons (pg_name (i := 7) sc_has.nd rfl (by walk_at "lv")) pgs_nil))))))))
        (pss_cons (ps_if (pt_cmpR op_lt (pv 1) (pv 2) (nomark _)) (pss_one (ps_ret (pe_ix ix_list (pv 7) (pe_op op_mod (pe_callTy call_int1 (by rfl) N.int boot_int (pa_cons (pv 1) pa_nil)) (pv 5)) (fun _ _ => rfl)))) pss_nil)
        (pss_cons (ps_if (pt_cmpR op_gt (pv 1) (pv 3) (nomark _)) (pss_one (ps_ret (pe_ix ix_list (pv 6) (pe_op op_mod (pe_callTy call_int1 (by rfl) N.int boot_int (pa_cons (pv 1) pa_nil)) (pv 5)) (fun _ _ => rfl)))) pss_nil)
        (pss_one (ps_ret (pe_ix ix_list (pv 4) (pe_op op_sub (pv 1) (pv 2)) (fun _ _ => rfl))))))), ?_⟩
    refine ⟨_, rfl, t, _, rfl, SqL.of a.t, rfl, _, _, rfl, _, _, rfl, _, _, rfl, _, _, rfl, _, _, rfl, _, _, rfl, rfl, ?_⟩
    refine ⟨_, rfl, _, rfl, _, _, rfl, rfl, _, rfl, ite2 (fun h1 => ?_) (fun h1 => ?_)⟩
    · have h1 : n < T.lo := of_decide_eq_true h1
      refine ⟨_, rfl, _, rfl, .inl ⟨_, rfl, _, rfl, _, _, rfl, rfl, hm', d, _, _, _, rfl, rfl, SqL.of a.l.ds, cyc_get (n := n) ok.len hm, ?_⟩⟩
      rw [show cyc T.ds n = T.has n from (Tl.below h1).symm]
      exact k
    · have h1 : ¬ n < T.lo := fun z => h1 (decide_eq_true z)
      refine ⟨_, rfl, _, rfl, _, _, rfl, rfl, _, rfl, ite2 (fun h2 => ?_) (fun h2 => ?_)⟩
      · have h2 : T.hi < n := of_decide_eq_true h2
        refine ⟨_, rfl, _, rfl, .inl ⟨_, rfl, _, rfl, _, _, rfl, rfl, hm', u, _, _, _, rfl, rfl, SqL.of a.l.us, cyc_get (n := n) rfl hm, ?_⟩⟩
        rw [show cyc T.us n = T.has n from (Tl.above h2).symm]
        exact k
      · have h2 : ¬ T.hi < n := fun z => h2 (decide_eq_true z)
        have hhi : T.hi = T.lo + T.cs.length - 1 := rfl
        refine ⟨_, rfl, _, rfl, _, rfl, _, _, rfl, rfl, c, _, _, _, rfl, rfl, SqL.of a.l.cs, blI_get (i := n - T.lo) (by omega) (by omega), ?_⟩
        rw [← Tl.core (by omega) (by omega)]
        exact k
/-- [k for k in range(n) if xs[k]] -/
theorem lc_res {σ : L2.St} {H : Hp} {Q : VK} {i j l m : Nat} {a : Addr} {bs : List Bool} (hj : σ[j]? = some (some (.int (m : Int)))) (hm : m ≤ bs.length) (hm2 : m ≤ 60000) (ha : H a = some (.lst (bs.map V.bl))) (hl : ∀ v, ((wipe σ [i]).set i (some v))[l]? = some (some (.ref a)))
    (hi : ∀ v, ((wipe σ [i]).set i (some v))[i]? = some (some v)) (hw : ∀ v, wipe ((wipe σ [i]).set i (some v)) [i] = wipe σ [i])
    (k : ∀ D H', Same H H' → H D = none → H' D = some (.lst ((fil (fun k => bs.getD k.toNat false) 0 m).map V.int)) → Q (.ref D) H') :
    tLc (iRng1 (tCons (tVar j) tNil)) (gName i) (tB (tOp (rIxL K) (tVar l) (tVar i))) (tVar i) [i] σ H Q := by
  refine ⟨_, hj, _, rfl, by omega, by omega, fun D hD => ?_⟩
  rw [show ((m : Int)).toNat = m by omega]
  refine lc_itF (G := fun _ => True) walk_range hD (fun x => (fil (fun k => bs.getD k.toNat false) 0 x).map V.int) rfl (fun x hx => smallB (by rw [List.length_map]; exact Nat.le_trans (fil_len _ _ _) (by omega))) (fun _ _ => trivial) ?_ ?_ ?_ ?_ (fun H' e s => k D H' s hD e)
  · rintro x v H2 H3 hx e s ⟨rfl, rfl⟩
    refine ⟨hw _, _, hl _, _, hi _, a, _, _, _, rfl, rfl, SqL.of (s _ _ ha), blI_get (i := 0 + (x : Int)) (by omega) (by omega), _, rfl, ?_⟩
    cases hb : bs.getD (0 + (x : Int)).toNat false with
    | false =>
      refine iteF ⟨e, s, ?_⟩
      rw [fil_neg (by rw [hb]; exact Bool.false_ne_true)]
    | true =>
      refine iteT ⟨_, hi _, e, s, ?_⟩
      rw [fil_pos hb, List.map_append]
      rfl
  · exact fun x H' Q Q' h q => h _ _ q
  · rintro σ2 H2 Q1 Q2 h ⟨x1, h1, x2, h2, p, xs, ii, v, f3, f4, sq, at_, k, ek, q⟩
    exact ⟨x1, h1, x2, h2, p, xs, ii, v, f3, f4, sq, at_, k, ek, h _ _ q⟩
  · rintro σ2 H2 Q1 Q2 h ⟨v, hv, q⟩
    exact ⟨v, hv, h _ _ q⟩
/-! ### _law_parts -/
/-- the three lists of numbers -/
def cIns (T : Tl) : List Int := (res T.cs).map fun k => T.lo + k
structure PartsAt (H : Hp) (q : Addr) (T : Tl) (a b c : Addr) : Prop where
  q : H q = some (.tup [.int T.lo, .int T.hi, .ref a, .int T.us.length, .ref b, .ref c])
  a : H a = some (.lst ((cIns T).map V.int))
  b : H b = some (.lst ((res T.us).map V.int))
  c : H c = some (.lst ((res T.ds).map V.int))
def spParts : Sp := fun vs H Q _ => ∃ (t c u d : Addr) (T : Tl), vs = [.ref t] ∧ TellAt H t T c u d ∧ T.Ok ∧ T.us.length ≤ 60000 ∧ T.cs.length ≤ 60000 ∧ ∀ q a1 a2 a3 H', Same H H' → PartsAt H' q T a1 a2 a3 → H a1 = none → H a2 = none → H a3 = none → Q (.ref q) H'
abbrev s_parts : Stmt := top 45
abbrev N_parts : List Str := ["_law_telling", "_law_low", "_law_high", "_law_core", "_law_modulus", "_law_ups", "_law_downs", "_law_k"]
theorem sc_parts : FnScope N_parts ["_law_telling"] (defScope s_parts) := ⟨rfl, rfl, rfl, by decide +kernel, rfl, by decide +kernel, by decide +kernel⟩
theorem kp_parts (F : At K mg "_law_parts" s_parts) (N : Nb mg) : Keeps CX0 P w K mg base "_law_parts" 1 ["_law_telling"] spParts := by
  refine keeps_of F sc_parts (fun _ _ _ _ _ _ us hl => match us, hl with | [_], _ => rfl) (fun vs H Q E h => ?_) (fun f cdv A outer s H vs Q E hr h => ?_)
  · obtain ⟨t, c, u, d, T, rfl, _⟩ := h
    rfl
  · obtain ⟨t, c, u, d, T, rfl, a, ok, hl1, hl2, k⟩ := h
    have hm := ok.pos
    refine ⟨_, (pss_cons (ps_asg (pv 0) (pg_unl (by rfl) (pgs_cons (pg_name (i := 1) sc_parts.nd rfl (by walk_at "lv")) (pgs_cons (pg_name (i := 2) sc_parts.nd rfl (by walk_at "lv")) (pgs_cons (pg_name (i := 3) sc_parts.nd rfl (by walk_at "lv")) (pgs_cons (pg_name (i := 4) sc_parts.nd rfl (by walk_at "lv")) (pgs_cons (pg_name (i := 5) sc_parts.nd rfl (by walk_at "lv")) (pgs_cons (pg_name (i := 6) sc_parts.nd rfl (by walk_at "lv")) pgs_nil))))))))
        (pss_one (ps_ret (pe_tup (pa_cons (pv 1) (pa_cons (pv 2) (pa_cons (pe_lc (own := [("_law_k", 7)]) (g := gName 7) rfl sc_parts.nd (pi_range1 (by rfl) N.range (pa_cons (pe_callB call_len_seq (by rfl) N.len (by decide +kernel) (pa_cons (pv 3) pa_nil)) pa_nil)) (blkOk_by (N := N_parts) (sc := defScope s_parts) (by decide +kernel)) (fun _ _ _ _ _ => (pg_name (i := 7) sc_parts.nd rfl (by walk_at "lv"))) (fun _ _ _ _ _ => (pts_one (pt_val (pe_ix ix_list (r := rIxL K) (pv 3) (pv 7) (fun _ _ => rfl))))) (fun _ _ _ _ _ => (pe_op op_add (pv 1) (pv 7)))) (pa_cons (pv 4) (pa_cons (pe_lc (own := [("_law_k", 7)]) (g := gName 7) rfl sc_parts.nd (pi_range1 (by rfl) N.range (pa_cons (pv 4) pa_nil)) (blkOk_by (N := N_parts) (sc := defScope s_parts) (by decide +kernel)) (fun _ _ _ _ _ => (pg_name (i := 7) sc_parts.nd rfl (by walk_at "lv"))) (fun _ _ _ _ _ => (pts_one (pt_val (pe_ix ix_list (r := rIxL K) (pv 5) (pv 7) (fun _ _ => rfl))))) (fun _ _ _ _ _ => (pv 7))) (pa_cons (pe_lc (own := [("_law_k", 7)]) (g := gName 7) rfl sc_parts.nd (pi_range1 (by rfl) N.range (pa_cons (pv 4) pa_nil)) (blkOk_by (N := N_parts) (sc := defScope s_parts) (by decide +kernel)) (fun _ _ _ _ _ => (pg_name (i := 7) sc_parts.nd rfl (by walk_at "lv"))) (fun _ _ _ _ _ => (pts_one (pt_val (pe_ix ix_list (r := rIxL K) (pv 6) (pv 7) (fun _ _ => rfl))))) (fun _ _ _ _ _ => (pv 7))) pa_nil)))))))))), ?_⟩
    refine ⟨_, rfl, t, _, rfl, SqL.of a.t, rfl, _, _, rfl, _, _, rfl, _, _, rfl, _, _, rfl, _, _, rfl, _, _, rfl, rfl, ?_⟩
    refine ⟨_, rfl, _, rfl, _, rfl, c, _, rfl, .inl (SqL.of a.l.cs), _, rfl, by rw [List.length_map]; omega, by rw [List.length_map]; omega, fun D hD => ?_⟩
    rw [List.length_map, show ((T.cs.length : Int)).toNat = T.cs.length by omega]
    refine lc_itF (G := fun _ => True) walk_range hD (fun x => ((fil (fun k => T.cs.getD k.toNat false) 0 x).map fun k => T.lo + k).map V.int) rfl (fun x hx => smallB (by rw [List.length_map, List.length_map]; exact Nat.le_trans (fil_len _ _ _) (by omega))) (fun _ _ => trivial) ?_ ?_ ?_ ?_ ?_
    · rintro x v H2 H3 hx e s ⟨rfl, rfl⟩
      refine ⟨rfl, _, rfl, _, rfl, c, _, _, _, rfl, rfl, SqL.of (s _ _ a.l.cs), blI_get (i := 0 + (x : Int)) (by omega) (by omega), _, rfl, ?_⟩
      cases hb : T.cs.getD (0 + (x : Int)).toNat false with
      | false =>
        refine iteF ⟨e, s, ?_⟩
        rw [fil_neg (by rw [hb]; exact Bool.false_ne_true)]
      | true =>
        refine iteT ⟨_, rfl, _, rfl, _, _, rfl, rfl, e, s, ?_⟩
        rw [fil_pos hb, List.map_append, List.map_append]
        rfl
    · exact fun x H' Q Q' h q => h _ _ q
    · rintro σ2 H2 Q1 Q2 h ⟨x1, h1, x2, h2, p, xs, ii, v, f3, f4, sq, at_, k, ek, q⟩
      exact ⟨x1, h1, x2, h2, p, xs, ii, v, f3, f4, sq, at_, k, ek, h _ _ q⟩
    · rintro σ2 H2 Q1 Q2 h ⟨v, hv, w, hw, i, j, e1, e2, q⟩
      exact ⟨v, hv, w, hw, i, j, e1, e2, h _ _ q⟩
    · intro H1 e1 s1
      refine ⟨_, rfl, lc_res (bs := T.us) (a := u) rfl (Nat.le_refl _) hl1 (s1 _ _ a.l.us) (fun _ => rfl) (fun _ => rfl) (fun _ => rfl) fun D2 H2 s2 n2 e2 => ?_⟩
      refine lc_res (bs := T.ds) (a := d) rfl (by rw [ok.len]; exact Nat.le_refl _) hl1 (s2 _ _ (s1 _ _ a.l.ds)) (fun _ => rfl) (fun _ => rfl) (fun _ => rfl) fun D3 H3 s3 n3 e3 => ?_
      refine ⟨(by show 6 ≤ sizeLine; decide), fun q hq => ?_⟩
      have s4 := same_new (o := .tup [V.int T.lo, V.int T.hi, V.ref D, V.int T.us.length, V.ref D2, V.ref D3]) s3 hq
      refine k q D D2 D3 _ (s1.trans (s2.trans s4)) ⟨upd_same, s4 _ _ (s2 _ _ e1), s4 _ _ e2, ?_⟩ hD (s1.free n2) ((s1.trans s2).free n3)
      have e3' := (same_new (o := .tup [V.int T.lo, V.int T.hi, V.ref D, V.int T.us.length, V.ref D2, V.ref D3]) (Same.refl H3) hq) _ _ e3
      rw [e3', show res T.ds = fil (fun k => T.ds.getD k.toNat false) 0 T.us.length by unfold res; rw [ok.len]]
end
end My
set_option Elab.async false
set_option linter.all false
set_option maxRecDepth 100000
set_option maxHeartbeats 8000000
namespace My
open PySem PySem.Spec PyProof.Rows L2
local macro_rules | `(tactic| walk_at "lv") => `(tactic| first | exact Or.inl rfl | exact Or.inr rfl)
/-- a form's six things as a tuple -/
def FormAt (H : Hp) (q : Addr) (lo hi : Int) (ins : List Int) (m : Nat) (us ds : List Int) : Prop :=
  ∃ a b c, H q = some (.tup [.int lo, .int hi, .ref a, .int m, .ref b, .ref c]) ∧ H a = some (.tup (ins.map V.int)) ∧ H b = some (.tup (us.map V.int)) ∧ H c = some (.tup (ds.map V.int))
theorem FormAt.same {H H' : Hp} {q : Addr} {lo hi : Int} {ins us ds : List Int} {m : Nat} (s : Same H H') (h : FormAt H q lo hi ins m us ds) : FormAt H' q lo hi ins m us ds := by
  obtain ⟨a, b, c, h1, h2, h3, h4⟩ := h
  exact ⟨a, b, c, s _ _ h1, s _ _ h2, s _ _ h3, s _ _ h4⟩
def formD (lo hi : Int) (ins : List Int) (m : Nat) (us ds : List Int) : PyData := .tuple [.int lo, .int hi, .tuple (ins.map PyData.int), .int m, .tuple (us.map PyData.int), .tuple (ds.map PyData.int)]
theorem FormAt.dp {K : PySem.W.Frag} {H : Hp} {q : Addr} {lo hi : Int} {ins us ds : List Int} {m : Nat} (h : FormAt H q lo hi ins m us ds) : Dp K H (.ref q) (formD lo hi ins m us ds) := by
  obtain ⟨a, b, c, h1, h2, h3, h4⟩ := h
  exact .tup (SqT.of h1) (.cons (.int _) (.cons (.int _) (.cons (.tup (SqT.of h2) (dp_ints _)) (.cons (.int _) (.cons (.tup (SqT.of h3) (dp_ints _)) (.cons (.tup (SqT.of h4) (dp_ints _)) .nil))))))
theorem formD_lay (lo hi : Int) (ins : List Int) (m : Nat) (us ds : List Int) : (formD lo hi ins m us ds).canLay0 = true ∧ SeqAt.shaped (formD lo hi ins m us ds) = true := by
  have h1 : PyData.canLayAll0 [.int lo, .int hi, .tuple (ins.map PyData.int), .int m, .tuple (us.map PyData.int), .tuple (ds.map PyData.int)] = true := by
    show (true && (true && (PyData.canLayAll0 (ins.map PyData.int) && (true && (PyData.canLayAll0 (us.map PyData.int) && (PyData.canLayAll0 (ds.map PyData.int) && true)))))) = true
    rw [(lay_ints ins).1, (lay_ints us).1, (lay_ints ds).1]
    rfl
  have h2 : PyData.depthAll [.int lo, .int hi, .tuple (ins.map PyData.int), .int m, .tuple (us.map PyData.int), .tuple (ds.map PyData.int)] = 1 := by
    show max 0 (max 0 (max (PyData.depthAll (ins.map PyData.int) + 1) (max 0 (max (PyData.depthAll (us.map PyData.int) + 1) (max (PyData.depthAll (ds.map PyData.int) + 1) 0))))) = 1
    rw [(lay_ints ins).2, (lay_ints us).2, (lay_ints ds).2]
    rfl
  exact ⟨h1, shp_tup h1 h2 (by decide)⟩
section
variable {P : Program} {w : World} {K : PySem.W.Frag} {mg : Str → Option Value} {base : Heap}
/-! ### _law_seen -/
def spSeen (C : Addr) : Sp := fun vs H Q _ => ∃ (p : Addr) (lo hi : Int) (m : Nat) (ins us ds : List Int), vs = [.ref p] ∧ LotAt C H p lo hi ins m us ds ∧ ∀ q H', Same H H' → FormAt H' q lo hi ins m us ds → Q (.ref q) H'
abbrev s_seen : Stmt := top 47
abbrev N_seen : List Str := ["_law_lot"]
theorem sc_seen : FnScope N_seen ["_law_lot"] (defScope s_seen) := ⟨rfl, rfl, rfl, by decide +kernel, rfl, by decide +kernel, by decide +kernel⟩
theorem kp_seen {C : Addr} (F : At K mg "_law_seen" s_seen) (T : LotTxt K mg C) : Keeps CX0 P w K mg base "_law_seen" 1 ["_law_lot"] (spSeen C) := by
  refine keeps_of F sc_seen (fun _ _ _ _ _ _ us hl => match us, hl with | [_], _ => rfl) (fun vs H Q E h => ?_) (fun f cdv A outer s H vs Q E hr h => ?_)
  · obtain ⟨p, lo, hi, m, ins, us, ds, rfl, _⟩ := h
    rfl
  · obtain ⟨p, lo, hi, m, ins, us, ds, rfl, ⟨dx, a, b, c, hp, ha, hb, hc⟩, k⟩ := h
    refine ⟨_, (pss_one (ps_ret (pe_tup (pa_cons (pe_fld (pv 0) rfl) (pa_cons (pe_fld (pv 0) rfl) (pa_cons (pe_fld (pv 0) rfl) (pa_cons (pe_fld (pv 0) rfl) (pa_cons (pe_fld (pv 0) rfl) (pa_cons (pe_fld (pv 0) rfl) pa_nil))))))))), ?_⟩
    refine ⟨_, rfl, p, C, dx, _, _, rfl, hp, T.cl, T.n1, lf_low, _, rfl, p, C, dx, _, _, rfl, hp, T.cl, T.n2, lf_high, _, rfl, p, C, dx, _, _, rfl, hp, T.cl, T.n3, lf_inside, _, rfl, p, C, dx, _, _, rfl, hp, T.cl, T.n4, lf_modulus, _, rfl, p, C, dx, _, _, rfl, hp, T.cl, T.n5, lf_ups, _, rfl, p, C, dx, _, _, rfl, hp, T.cl, T.n6, lf_downs, ?_⟩
    refine ⟨(by show 6 ≤ sizeLine; decide), fun q hq => ?_⟩
    have s1 := same_new (o := .tup [V.int lo, V.int hi, V.ref a, V.int m, V.ref b, V.ref c]) (Same.refl H) hq
    exact k q _ s1 ⟨a, b, c, upd_same, s1 _ _ ha, s1 _ _ hb, s1 _ _ hc⟩
/-! ### _law_is_form -/
structure RowsOk (lo hi : Int) (ins : List Int) (m : Nat) (us ds : List Int) : Prop where
  i : ins.Pairwise (· < ·)
  ib : ∀ n ∈ ins, lo ≤ n ∧ n ≤ hi
  u : us.Pairwise (· < ·)
  ub : ∀ n ∈ us, 0 ≤ n ∧ n ≤ (m : Int) - 1
  d : ds.Pairwise (· < ·)
  db : ∀ n ∈ ds, 0 ≤ n ∧ n ≤ (m : Int) - 1
def spIsF (C : Addr) : Sp := fun vs H Q _ => ∃ (p q : Addr) (lo hi : Int) (m : Nat) (ins us ds : List Int), vs = [.ref p, .ref q] ∧ LotAt C H p lo hi ins m us ds ∧ FormAt H q lo hi ins m us ds ∧ RowsOk lo hi ins m us ds ∧ ∀ H', Same H H' → Q (.bl true) H'
abbrev s_isf : Stmt := top 48
abbrev N_isf : List Str := ["_law_lot", "_law_form_here"]
theorem sc_isf : FnScope N_isf ["_law_lot", "_law_form_here"] (defScope s_isf) := ⟨rfl, rfl, rfl, by decide +kernel, rfl, by decide +kernel, by decide +kernel⟩
theorem kp_isf {C : Addr} (F : At K mg "_law_is_form" s_isf) (T : LotTxt K mg C) (N : Nb mg) (Gw : Keeps CX0 P w K mg base "_law_whole" 1 ["_law_thing"] spWhole) (Gr : Keeps CX0 P w K mg base "_law_row_of" 2 ["_law_thing", "_law_low", "_law_high"] spRow) (Gs : Keeps CX0 P w K mg base "_law_seen" 1 ["_law_lot"] (spSeen C)) :
    Keeps CX0 P w K mg base "_law_is_form" 3 ["_law_lot", "_law_form_here"] (spIsF C) := by
  refine keeps_of F sc_isf (fun _ _ _ _ _ _ us hl => match us, hl with | [_, _], _ => rfl) (fun vs H Q E h => ?_) (fun f cdv A outer s H vs Q E hr h => ?_)
  · obtain ⟨p, q, lo, hi, m, ins, us, ds, rfl, _⟩ := h
    rfl
  · obtain ⟨p, q, lo, hi, m, ins, us, ds, rfl, la, fa, ok, k⟩ := h
    obtain ⟨dx, a, b, c, hp, ha, hb, hc⟩ := id la
    have h1 : Room 1 (A.deeper (envOfC "_law_is_form" (defScope s_isf) s.heap.objs.size f cdv)) := hr.mono (by decide)
    refine ⟨_, (pss_cons (ps_if (PW.pt (pw_or (pt_not (pt_val (pe_callB call_isi (by rfl) N.isinstance boot_isinstance (pa_cons (pv 0) (pa_cons (pe_glob (v := .ref C) (by rfl) T.mgC rfl) pa_nil))))) (pw_or (pt_not (pt_val (pe_k Gw h1 (by rfl) pass0 (pa_cons (pe_fld (pv 0) rfl) pa_nil)))) (pw_or (pt_not (pt_val (pe_k Gw h1 (by rfl) pass0 (pa_cons (pe_fld (pv 0) rfl) pa_nil)))) (pw_or1 (pt_not (pt_val (pe_k Gw h1 (by rfl) pass0 (pa_cons (pe_fld (pv 0) rfl) pa_nil))))))))) (pss_one (ps_ret pe_bl)) pss_nil)
        (pss_cons (ps_if (PW.pt (pw_or (pt_not (pt_val (pe_k Gr hr (by rfl) pass0 (pa_cons (pe_fld (pv 0) rfl) (pa_cons (pe_fld (pv 0) rfl) (pa_cons (pe_fld (pv 0) rfl) pa_nil)))))) (pw_or (pt_not (pt_val (pe_k Gr hr (by rfl) pass0 (pa_cons (pe_fld (pv 0) rfl) (pa_cons pe_int (pa_cons (pe_op op_sub (pe_fld (pv 0) rfl) pe_int) pa_nil)))))) (pw_or1 (pt_not (pt_val (pe_k Gr hr (by rfl) pass0 (pa_cons (pe_fld (pv 0) rfl) (pa_cons pe_int (pa_cons (pe_op op_sub (pe_fld (pv 0) rfl) pe_int) pa_nil)))))))))) (pss_one (ps_ret pe_bl)) pss_nil)
        (pss_one (ps_ret (pe_cmpR (op_eqD hr.units) (pe_k Gs h1 (by rfl) pass0 (pa_cons (pv 0) pa_nil)) (pv 1) (nomark _)))))), ?_⟩
    refine ⟨_, rfl, .ref p, .ref C, _, _, true, rfl, .own C, .base (.ins hp T.cl T.ha T.hn T.ht T.hm), T.isLot, _, rfl, iteF ?_⟩
    refine ⟨_, rfl, p, C, dx, _, _, rfl, hp, T.cl, T.n1, lf_low, _, rfl, _, rfl, iteF ?_⟩
    refine ⟨_, rfl, p, C, dx, _, _, rfl, hp, T.cl, T.n2, lf_high, _, rfl, _, rfl, iteF ?_⟩
    refine ⟨_, rfl, p, C, dx, _, _, rfl, hp, T.cl, T.n4, lf_modulus, _, rfl, _, rfl, iteF ?_⟩
    refine ⟨_, rfl, p, C, dx, _, _, rfl, hp, T.cl, T.n3, lf_inside, _, rfl, p, C, dx, _, _, rfl, hp, T.cl, T.n1, lf_low, _, rfl, p, C, dx, _, _, rfl, hp, T.cl, T.n2, lf_high, a, ins, lo, hi, rfl, ha, ok.i, ok.ib, _, rfl, iteF ?_⟩
    refine ⟨_, rfl, p, C, dx, _, _, rfl, hp, T.cl, T.n5, lf_ups, _, rfl, p, C, dx, _, _, rfl, hp, T.cl, T.n4, lf_modulus, _, _, rfl, rfl, b, us, 0, _, rfl, hb, ok.u, ok.ub, _, rfl, iteF ?_⟩
    refine ⟨_, rfl, p, C, dx, _, _, rfl, hp, T.cl, T.n6, lf_downs, _, rfl, p, C, dx, _, _, rfl, hp, T.cl, T.n4, lf_modulus, _, _, rfl, rfl, c, ds, 0, _, rfl, hc, ok.d, ok.db, _, rfl, iteF ?_⟩
    refine ⟨_, rfl, p, lo, hi, m, ins, us, ds, rfl, la, fun q2 H2 s2 f2 => ?_⟩
    obtain ⟨y1, y2⟩ := formD_lay lo hi ins m us ds
    refine ⟨_, rfl, _, _, f2.dp, (fa.same s2).dp, y2, y2, ?_⟩
    show Q (.bl (PyData.eqv _ _)) _
    rw [PySem.SeqAt.eqv_refl _ y1]
    exact k _ s2
/-! ### make_lot -/
def spMake (K : PySem.W.Frag) : Sp := fun vs H Q E => ∃ (T : Tl) (a b c : Addr) (ins us ds : List Int), vs = [.int T.lo, .int T.hi, .ref a, .int T.us.length, .ref b, .ref c] ∧ T.Near ∧ (T.cs.length < 60000 ∧ T.us.length ≤ 10080) ∧ -20000 ≤ T.lo ∧ T.hi ≤ 20000 ∧ Told T ins us ds ∧ (ins.Nodup ∧ us.Nodup ∧ ds.Nodup) ∧ (ins.length ≤ 60000 ∧ us.length ≤ 60000 ∧ ds.length ≤ 60000) ∧
  SqA H a (ins.map V.int) ∧ SqA H b (us.map V.int) ∧ SqA H c (ds.map V.int) ∧ LotEnd K T H Q E
abbrev s_make : Stmt := top 17
abbrev N_make : List Str := ["low", "high", "inside", "modulus", "ups", "downs"]
theorem sc_make : FnScope N_make ["low", "high", "inside", "modulus", "ups", "downs"] (defScope s_make) := ⟨rfl, rfl, rfl, by decide +kernel, rfl, by decide +kernel, by decide +kernel⟩
theorem kp_make (F : At K mg "make_lot" s_make) (mM : ∃ t, mg "MOST_MODULUS" = some (.int 10080 t)) (Gc : Keeps CX0 P w K mg base "_check_core" 2 ["low", "high"] spCore) (Gu : Keeps CX0 P w K mg base "_are_unlike_from" 3 ["numbers", "low", "high"] spUnl)
    (Gw : Keeps CX0 P w K mg base "is_whole_from" 2 ["thing", "low", "high"] spWholeF) (Gl_ : Keeps (CX P w) P w K mg base "_lot_of" 3 ["low", "high", "inside", "modulus", "ups", "downs"] (spLotOf K)) :
    Keeps (CX P w) P w K mg base "make_lot" 4 ["low", "high", "inside", "modulus", "ups", "downs"] (spMake K) := by
  refine keeps_ofX F sc_make (fun _ _ _ _ _ _ us hl => match us, hl with | [_, _, _, _, _, _], _ => rfl) (fun vs H Q E h => ?_) (fun f cdv A outer s H vs Q E hr h => ?_)
  · obtain ⟨T, a, b, c, ins, us, ds, rfl, _⟩ := h
    rfl
  · obtain ⟨T, a, b, c, ins, us, ds, rfl, near, ⟨hc9, h10⟩, b1, b2, told, nd, ln, ha, hb, hc, k⟩ := h
    obtain ⟨tM, mM⟩ := mM
    have hm := near.ok.pos
    have hm1 := near.m
    have hhi : T.hi = T.lo + T.cs.length - 1 := rfl
    refine ⟨_, (pss_cons (ps_expr (pe_k Gc (hr.mono (by decide)) (by rfl) pass0 (pa_cons (pv 0) (pa_cons (pv 1) pa_nil))))
        (pss_cons (ps_if (pt_not (pt_val (pe_k Gu hr (by rfl) pass0 (pa_cons (pv 2) (pa_cons (pv 0) (pa_cons (pv 1) pa_nil)))))) (pss_one ps_never) pss_nil)
        (pss_cons (ps_if (pt_not (pt_val (pe_k Gw (hr.mono (by decide)) (by rfl) pass0 (pa_cons (pv 3) (pa_cons pe_int (pa_cons (pe_glob (v := .int 10080) (by rfl) mM ⟨_, rfl⟩) pa_nil)))))) (pss_one ps_never) pss_nil)
        (pss_cons (ps_if (pt_not (pt_val (pe_k Gu hr (by rfl) pass0 (pa_cons (pv 4) (pa_cons pe_int (pa_cons (pe_op op_sub (pv 3) pe_int) pa_nil)))))) (pss_one ps_never) pss_nil)
        (pss_cons (ps_if (pt_not (pt_val (pe_k Gu hr (by rfl) pass0 (pa_cons (pv 5) (pa_cons pe_int (pa_cons (pe_op op_sub (pv 3) pe_int) pa_nil)))))) (pss_one ps_never) pss_nil)
        (pss_one (ps_ret (pe_k Gl_ hr (by rfl) (passes_call (takes_of rfl rfl rfl rfl) (fun _ _ _ _ h => h)) (pa_cons (pv 0) (pa_cons (pv 1) (pa_cons (pv 2) (pa_cons (pv 3) (pa_cons (pv 4) (pa_cons (pv 5) pa_nil)))))))))))))), ?_⟩
    refine ⟨_, rfl, _, rfl, T.lo, T.hi, rfl, b1, b2, by omega, ?_⟩
    refine ⟨_, rfl, _, rfl, _, rfl, a, ins, T.lo, T.hi, rfl, ha, nd.1, ln.1, told.i, fun H1 s1 => ⟨_, rfl, iteF ?_⟩⟩
    refine ⟨_, rfl, (T.us.length : Int), 1, 10080, rfl, ?_⟩
    rw [decide_eq_true (by omega : (1 : Int) ≤ (T.us.length : Int)), decide_eq_true (by omega : (T.us.length : Int) ≤ 10080)]
    refine ⟨_, rfl, iteF ?_⟩
    refine ⟨_, rfl, _, rfl, _, _, rfl, rfl, b, us, 0, _, rfl, hb.same s1, nd.2.1, ln.2.1, told.u, fun H2 s2 => ⟨_, rfl, iteF ?_⟩⟩
    refine ⟨_, rfl, _, rfl, _, _, rfl, rfl, c, ds, 0, _, rfl, (hc.same s1).same s2, nd.2.2, ln.2.2, told.d, fun H3 s3 => ⟨_, rfl, iteF ?_⟩⟩
    have s13 := s1.trans (s2.trans s3)
    exact ⟨_, rfl, _, rfl, _, rfl, _, rfl, _, rfl, _, rfl, T, a, b, c, ins, us, ds, rfl, near, hc9, told, ha.same s13, hb.same s13, hc.same s13, k.same s13⟩
end
end My
set_option Elab.async false
set_option linter.all false
set_option maxRecDepth 100000
set_option maxHeartbeats 8000000
namespace My
open PySem PySem.Spec PyProof.Rows L2
local macro_rules | `(tactic| walk_at "lv") => `(tactic| first | exact Or.inl rfl | exact Or.inr rfl)
theorem res_of {l : List Bool} {d : Nat} (hd : d ≤ l.length) : fil (fun k => l.getD k.toNat false) 0 d = resOf (cyc l) d := by
  unfold resOf
  refine fil_cong fun x h1 h2 => ?_
  have e : x = ((x.toNat : Nat) : Int) := by omega
  have q := cyc_lt (l := l) (k := x.toNat) (by omega)
  rw [← e] at q
  rw [q]
theorem irow_at {a z : Int} {n i : Nat} (h : (irow a n)[i]? = some z) : z = a + (i : Nat) ∧ i < n := by
  unfold irow at h
  rw [List.getElem?_map] at h
  rcases Nat.lt_or_ge i n with q | q
  · rw [List.getElem?_range q] at h
    exact ⟨(Option.some.inj h).symm, q⟩
  · rw [List.getElem?_eq_none (by rw [List.length_range]; exact q)] at h
    cases h
section
variable {P : Program} {w : World} {K : PySem.W.Frag} {mg : Str → Option Value} {base : Heap}
/-! ### _law_form -/
def FormEnd (T : Tl) (H : Hp) (Q : VK) : Prop :=
  (∀ q lo hi d H', IsForm T.has T.U T.D lo hi d → -20000 ≤ lo → hi ≤ 20000 → Same H H' → FormAt H' q lo hi (insOf T lo hi) d (resOf T.U d) (resOf T.D d) → Q (.ref q) H') ∧
  (∀ lo hi d H', IsForm T.has T.U T.D lo hi d → (lo < -20000 ∨ 20000 < hi) → Same H H' → Q .non H')
def spForm : Sp := fun vs H Q _ => ∃ (t c u d : Addr) (T : Tl), vs = [.ref t] ∧ TellAt H t T c u d ∧ T.Near ∧ T.us.length ≤ 1000 ∧ T.cs.length ≤ 1000 ∧ FormEnd T H Q
abbrev s_form : Stmt := top 46
/-- the names of the comprehension over d -/
def scD : Scope := { kind := ScopeKind.function, names := [(PySem.Str.ofString ".0", NameKind.local), (PySem.Str.ofString "_law_d", NameKind.cell), (PySem.Str.ofString "int", NameKind.globalImplicit), (PySem.Str.ofString "all", NameKind.globalImplicit), (PySem.Str.ofString "range", NameKind.globalImplicit), (PySem.Str.ofString "_law_downs", NameKind.cell), (PySem.Str.ofString "_law_modulus", NameKind.cell), (PySem.Str.ofString "_law_ups", NameKind.cell)], isGenerator := false, isCoroutine := false }
abbrev N_form : List Str := ["_law_telling", "_law_low", "_law_high", "_law_core", "_law_modulus", "_law_ups", "_law_downs", "_law_size", "_law_window", "_law_tops", "_law_bottoms", "_law_new_low", "_law_new_high", "_law_inside", "_law_d", "_law_k", "_law_n"]
theorem sc_form : FnScope N_form ["_law_telling"] (defScope s_form) := ⟨rfl, rfl, rfl, by decide +kernel, rfl, by decide +kernel, by decide +kernel⟩
theorem kp_form (F : At K mg "_law_form" s_form) (N : Nb mg) (Gh : Keeps CX0 P w K mg base "_law_has" 1 ["_law_telling", "_law_number"] spHas) : Keeps CX0 P w K mg base "_law_form" 2 ["_law_telling"] spForm := by
  refine keeps_of F sc_form (fun _ _ _ _ _ _ us hl => match us, hl with | [_], _ => rfl) (fun vs H Q E h => ?_) (fun f cdv A outer s H vs Q E hr h => ?_)
  · obtain ⟨t, c, u, d, T, rfl, _⟩ := h
    rfl
  · obtain ⟨t, c, u, d, T, rfl, a, near, um, cm, kk⟩ := h
    have ok := near.ok
    have hm := ok.pos
    have hlo := near.lo
    have hhi : T.hi = T.lo + T.cs.length - 1 := rfl
    obtain ⟨tl, dtl, tail⟩ : ∃ tl, PSs (cxOf CX0 P w K mg base N_form "_law_form" (defScope s_form) f cdv A outer s H E).nox ((defBody s_form).drop 8) tl ∧ ∀ (H1 : Hp) (lo hi : Int) (sz : Nat) (x8 x9 x10 : Option V), IsForm T.has T.U T.D lo hi sz → sz ≤ T.us.length → -(3 * 10 ^ 31) ≤ lo → lo ≤ 3 * 10 ^ 31 → -(3 * 10 ^ 31) ≤ hi → hi ≤ 3 * 10 ^ 31 → hi + 1 - lo < 60000 → Same H H1 →
        tl { nx := fun _ H' => Q .non H', rt := Q } [some (V.ref t), some (V.int T.lo), some (V.int T.hi), some (V.ref c), some (V.int T.us.length), some (V.ref u), some (V.ref d), some (V.int sz), x8, x9, x10, some (V.int lo), some (V.int hi), none, none, none, none] H1 := by
      refine ⟨_, (pss_cons (ps_if (PW.pt (pw_or (pt_cmpR op_lt (pv 11) (pe_un un_neg pe_int) (nomark _)) (pw_or1 (pt_cmpR op_gt (pv 12) pe_int (nomark _))))) (pss_one (ps_ret pe_non)) pss_nil)
        (pss_cons (ps_set (i := 13) sc_form.nd rfl (by walk_at "lv") (pe_callTy call_tuple_of (by rfl) N.tuple (by decide +kernel) (pa_cons (pe_lc (own := [("_law_n", 16)]) (g := gName 16) rfl sc_form.nd (pi_range2 (by rfl) N.range (pa_cons (pv 11) (pa_cons (pe_op op_add (pv 12) pe_int) pa_nil))) (blkOk_by (N := N_form) (sc := defScope s_form) (by decide +kernel)) (fun _ _ _ _ _ => (pg_name (i := 16) sc_form.nd rfl (by walk_at "lv"))) (fun _ _ _ _ _ => (pts_one (pt_val (pe_k Gh hr (by rfl) pass0 (pa_cons (pv 0) (pa_cons (pv 16) pa_nil)))))) (fun _ _ _ _ _ => (pv 16))) pa_nil)))
        (pss_one (ps_ret (pe_tup (pa_cons (pv 11) (pa_cons (pv 12) (pa_cons (pv 13) (pa_cons (pv 7) (pa_cons (pe_callTy call_tuple_of (by rfl) N.tuple (by decide +kernel) (pa_cons (pe_lc (own := [("_law_k", 15)]) (g := gName 15) rfl sc_form.nd (pi_range1 (by rfl) N.range (pa_cons (pv 7) pa_nil)) (blkOk_by (N := N_form) (sc := defScope s_form) (by decide +kernel)) (fun _ _ _ _ _ => (pg_name (i := 15) sc_form.nd rfl (by walk_at "lv"))) (fun _ _ _ _ _ => (pts_one (pt_val (pe_ix (r := rIxL K) ix_list (pv 5) (pv 15) (fun _ _ => rfl))))) (fun _ _ _ _ _ => (pv 15))) pa_nil)) (pa_cons (pe_callTy call_tuple_of (by rfl) N.tuple (by decide +kernel) (pa_cons (pe_lc (own := [("_law_k", 15)]) (g := gName 15) rfl sc_form.nd (pi_range1 (by rfl) N.range (pa_cons (pv 7) pa_nil)) (blkOk_by (N := N_form) (sc := defScope s_form) (by decide +kernel)) (fun _ _ _ _ _ => (pg_name (i := 15) sc_form.nd rfl (by walk_at "lv"))) (fun _ _ _ _ _ => (pts_one (pt_val (pe_ix (r := rIxL K) ix_list (pv 6) (pv 15) (fun _ _ => rfl))))) (fun _ _ _ _ _ => (pv 15))) pa_nil)) pa_nil))))))))))), ?_⟩
      intro H1 lo hi sz x8 x9 x10 fm hsz b1 b2 b3 b4 b5 s1
      refine ⟨_, rfl, _, rfl, _, _, rfl, rfl, _, rfl, ite2 (fun h1 => kk.2 lo hi sz H1 fm (.inl (of_decide_eq_true h1)) s1) (fun h1 => ?_)⟩
      have h1 : ¬ lo < -20000 := fun z => h1 (decide_eq_true z)
      refine ⟨_, rfl, _, _, rfl, rfl, _, rfl, ite2 (fun h2 => kk.2 lo hi sz H1 fm (.inr (of_decide_eq_true h2)) s1) (fun h2 => ?_)⟩
      have h2 : ¬ 20000 < hi := fun z => h2 (decide_eq_true z)
      have hz := fm.size
      refine ⟨_, rfl, _, rfl, _, _, rfl, rfl, _, _, rfl, ⟨by omega, by omega, by omega, by omega⟩, fun D hD => ?_⟩
      refine lc_itF (G := fun _ => True) walk_range hD (fun i => (fil T.has lo i).map V.int) rfl (fun i hi' => smallB (by rw [List.length_map]; exact Nat.le_trans (fil_len _ _ _) (by omega))) (fun _ _ => trivial) ?_ ?_ ?_ ?_ ?_
      · rintro i x H2 H3 hi' e s2 ⟨rfl, rfl⟩
        refine ⟨rfl, _, rfl, _, rfl, t, c, u, d, T, _, rfl, (a.same s1).same s2, ok, _, rfl, ?_⟩
        cases hb' : T.has (lo + (i : Int)) with
        | false =>
          refine iteF ⟨e, s2, ?_⟩
          rw [fil_neg (by rw [hb']; exact Bool.false_ne_true)]
        | true =>
          refine iteT ⟨_, rfl, e, s2, ?_⟩
          rw [fil_pos hb', List.map_append]
          rfl
      · exact fun x H' Q Q' h q => h _ _ q
      · rintro σ2 H2 Q1 Q2 h ⟨v, hv, w, hw, t2, c2, u2, d2, T2, n2, e1, e2, e3, k, ek, q⟩
        exact ⟨v, hv, w, hw, t2, c2, u2, d2, T2, n2, e1, e2, e3, k, ek, h _ _ q⟩
      · rintro σ2 H2 Q1 Q2 h ⟨v, hv, q⟩
        exact ⟨v, hv, h _ _ q⟩
      · intro H2 e2 s2
        refine ⟨D, _, rfl, .inl ⟨SqL.of e2, fun l hl => ?_⟩⟩
        have s3 := same_new (o := .tup ((fil T.has lo (hi + 1 - lo).toNat).map V.int)) s2 hl
        have s13 := s1.trans s3
        refine ⟨_, rfl, _, rfl, _, rfl, _, rfl, ?_⟩
        dsimp only [tCons, tCB]
        refine lc_res (bs := T.us) (a := u) rfl hsz (by omega) (s13 _ _ a.l.us) (fun _ => rfl) (fun _ => rfl) (fun _ => rfl) fun D2 H4 s4 n4 e4 => ?_
        refine ⟨D2, _, rfl, .inl ⟨SqL.of e4, fun l2 hl2 => ?_⟩⟩
        have s5 := same_new (o := .tup ((fil (fun k => T.us.getD k.toNat false) 0 sz).map V.int)) s4 hl2
        refine lc_res (bs := T.ds) (a := d) rfl (by rw [ok.len]; exact hsz) (by omega) (s5 _ _ (s13 _ _ a.l.ds)) (fun _ => rfl) (fun _ => rfl) (fun _ => rfl) fun D3 H6 s6 n6 e6 => ?_
        refine ⟨D3, _, rfl, .inl ⟨SqL.of e6, fun l3 hl3 => ?_⟩⟩
        have s7 := same_new (o := .tup ((fil (fun k => T.ds.getD k.toNat false) 0 sz).map V.int)) s6 hl3
        refine ⟨(by show 6 ≤ sizeLine; decide), fun q hq => ?_⟩
        have s8 := same_new (o := .tup [V.int lo, V.int hi, V.ref l, V.int sz, V.ref l2, V.ref l3]) (Same.refl _) hq
        refine kk.1 q lo hi sz _ fm (by omega) (by omega) ((s13.trans s5).trans (s7.trans s8)) ⟨l, l2, l3, upd_same, ?_, ?_, ?_⟩
        · refine s8 _ _ (s7 _ _ (s5 _ _ ?_))
          exact upd_same
        · refine s8 _ _ (s7 _ _ ?_)
          rw [res_of hsz]
          exact upd_same
        · refine s8 _ _ ?_
          rw [res_of (by rw [ok.len]; exact hsz)]
          exact upd_same
    refine ⟨_, (pss_cons (ps_asg (pv 0) (pg_unl (by rfl) (pgs_cons (pg_name (i := 1) sc_form.nd rfl (by walk_at "lv")) (pgs_cons (pg_name (i := 2) sc_form.nd rfl (by walk_at "lv")) (pgs_cons (pg_name (i := 3) sc_form.nd rfl (by walk_at "lv")) (pgs_cons (pg_name (i := 4) sc_form.nd rfl (by walk_at "lv")) (pgs_cons (pg_name (i := 5) sc_form.nd rfl (by walk_at "lv")) (pgs_cons (pg_name (i := 6) sc_form.nd rfl (by walk_at "lv")) pgs_nil))))))))
        (pss_cons (ps_set (i := 7) sc_form.nd rfl (by walk_at "lv") (pe_ix ix_list (pe_lc (own := [("_law_d", 14)]) (g := gName 14) (tt := tAnd (tTest (tOp rEq (tOp (rI (fun _ j => 0 < j) fun i j => V.int (i % j)) (tCB (fun xs H Q => (∃ i, xs = [V.int i] ∧ Q (V.int i) H) ∨ ∃ b, xs = [V.bl b] ∧ Q (V.int (if b then 1 else 0)) H) (tCons (tVar 4) tNil)) (tVar 14)) (tC (.int 0)))) (tB (tCB (rAll K) (tCons (tLc (iRng1 (tCons (tVar 4) tNil)) (gName 15) tYes (tAndV (tOp rEq (tOp (rIxL K) (tVar 5) (tVar 15)) (tOp (rIxL K) (tVar 5) (tOp (rI (fun _ j => 0 < j) fun i j => V.int (i % j)) (tCB (fun xs H Q => (∃ i, xs = [V.int i] ∧ Q (V.int i) H) ∨ ∃ b, xs = [V.bl b] ∧ Q (V.int (if b then 1 else 0)) H) (tCons (tVar 15) tNil)) (tVar 14)))) (tOp rEq (tOp (rIxL K) (tVar 6) (tVar 15)) (tOp (rIxL K) (tVar 6) (tOp (rI (fun _ j => 0 < j) fun i j => V.int (i % j)) (tCB (fun xs H Q => (∃ i, xs = [V.int i] ∧ Q (V.int i) H) ∨ ∃ b, xs = [V.bl b] ∧ Q (V.int (if b then 1 else 0)) H) (tCons (tVar 15) tNil)) (tVar 14))))) [15]) tNil)))) rfl sc_form.nd (pi_range2 (by rfl) N.range (pa_cons pe_int (pa_cons (pe_op op_add (pv 4) pe_int) pa_nil))) (blkOk_by (N := N_form) (sc := defScope s_form) (by decide +kernel)) (fun _ _ _ _ _ => (pg_name (i := 14) sc_form.nd rfl (by walk_at "lv"))) (fun _ _ _ _ _ => (pts_one (PW.pt (pw_and (pt_cmpR op_eq (pe_op op_mod (pe_callTy call_int1 (by rfl) N.int boot_int (pa_cons (pv 4) pa_nil)) (pv 14)) pe_int (nomark _)) (pw_and1 (pt_val (pe_callB (cr_all rfl) (by rfl) N.all (by decide +kernel) (pa_cons (pe_lc (own := [("_law_k", 15)]) (g := gName 15) (tt := tYes) rfl sc_form.nd (pi_range1 (by rfl) N.range (pa_cons (pv 4) pa_nil)) (blkOk_by (N := N_form) (sc := scD) (by decide +kernel)) (fun _ _ _ _ _ => (pg_name (i := 15) sc_form.nd rfl (by walk_at "lv"))) (fun _ _ _ _ _ => pts_nil) (fun _ _ _ _ _ => (pe_and (pe_cmpR op_eq (pe_ix (r := rIxL K) ix_list (pv 5) (pv 15) (fun _ _ => rfl)) (pe_ix (r := rIxL K) ix_list (pv 5) (pe_op op_mod (pe_callTy call_int1 (by rfl) N.int boot_int (pa_cons (pv 15) pa_nil)) (pv 14)) (fun _ _ => rfl)) (nomark _)) (pe_one (pe_cmpR op_eq (pe_ix (r := rIxL K) ix_list (pv 6) (pv 15) (fun _ _ => rfl)) (pe_ix (r := rIxL K) ix_list (pv 6) (pe_op op_mod (pe_callTy call_int1 (by rfl) N.int boot_int (pa_cons (pv 15) pa_nil)) (pv 14)) (fun _ _ => rfl)) (nomark _)))))) pa_nil)))))))) (fun _ _ _ _ _ => (pv 14))) pe_int (fun _ _ => rfl)))
        (pss_cons (ps_setLc (i := 8) (own := [("_law_n", 16)]) (g := gName 16) (tt := tYes) rfl sc_form.nd rfl rfl (sw_true rfl rfl rfl (by decide +kernel)) (pi_rangeL (by rfl) N.range (pa_cons (pe_op op_sub (pv 1) (pv 4)) (pa_cons (pe_op op_add (pe_op op_add (pv 2) (pv 4)) pe_int) pa_nil))) (blkOk_by (N := N_form) (sc := defScope s_form) (by decide +kernel)) (fun _ _ _ _ _ => (pg_name (i := 16) sc_form.nd rfl (by walk_at "lv"))) (fun _ _ _ _ _ => pts_nil) (fun _ _ _ _ _ => (pv 16)))
        (pss_cons (ps_setLc (i := 9) (own := [("_law_n", 16)]) (g := gName 16) rfl sc_form.nd rfl rfl (sw_true rfl rfl rfl (by decide +kernel)) (pi_list (pv 8)) (blkOk_by (N := N_form) (sc := defScope s_form) (by decide +kernel)) (fun _ _ _ _ _ => (pg_name (i := 16) sc_form.nd rfl (by walk_at "lv"))) (fun _ _ _ _ _ => (pts_one (pt_cmpR op_ne (pe_k Gh hr (by rfl) pass0 (pa_cons (pv 0) (pa_cons (pv 16) pa_nil))) (pe_ix (r := rIxL K) ix_list (pv 5) (pe_op op_mod (pe_callTy call_int1 (by rfl) N.int boot_int (pa_cons (pv 16) pa_nil)) (pv 4)) (fun _ _ => rfl)) (nomark _)))) (fun _ _ _ _ _ => (pv 16)))
        (pss_cons (ps_setLc (i := 10) (own := [("_law_n", 16)]) (g := gName 16) rfl sc_form.nd rfl rfl (sw_true rfl rfl rfl (by decide +kernel)) (pi_list (pv 8)) (blkOk_by (N := N_form) (sc := defScope s_form) (by decide +kernel)) (fun _ _ _ _ _ => (pg_name (i := 16) sc_form.nd rfl (by walk_at "lv"))) (fun _ _ _ _ _ => (pts_one (pt_cmpR op_ne (pe_k Gh hr (by rfl) pass0 (pa_cons (pv 0) (pa_cons (pv 16) pa_nil))) (pe_ix (r := rIxL K) ix_list (pv 6) (pe_op op_mod (pe_callTy call_int1 (by rfl) N.int boot_int (pa_cons (pv 16) pa_nil)) (pv 4)) (fun _ _ => rfl)) (nomark _)))) (fun _ _ _ _ _ => (pv 16)))
        (pss_cons (ps_set (i := 11) sc_form.nd rfl (by walk_at "lv") pe_int)
        (pss_cons (ps_set (i := 12) sc_form.nd rfl (by walk_at "lv") (pe_un un_neg pe_int))
        (pss_cons (ps_if (pt_truth (pv 9) (by intro _; rfl)) (pss_cons (ps_set (i := 12) sc_form.nd rfl (by walk_at "lv") (pe_ix ix_list (pv 9) (pe_un un_neg pe_int) (fun _ _ => rfl))) (pss_one (ps_set (i := 11) sc_form.nd rfl (by walk_at "lv") (pe_callB (call_min2 rfl) (by rfl) N.min (by decide +kernel) (pa_cons (pe_op op_add (pv 12) pe_int) (pa_cons (pe_ix ix_list (pv 10) pe_int (fun _ _ => rfl)) pa_nil)))))) pss_nil)
        dtl)))))))), ?_⟩
    refine ⟨_, rfl, t, _, rfl, SqL.of a.t, rfl, _, _, rfl, _, _, rfl, _, _, rfl, _, _, rfl, _, _, rfl, _, _, rfl, rfl, ?_⟩
    obtain ⟨sz, z0, z1, z2⟩ := size_first ok
    refine ⟨_, rfl, _, _, rfl, rfl, _, _, rfl, ⟨by omega, by omega, by omega, by omega⟩, fun D hD => ?_⟩
    rw [show ((T.us.length : Int) + 1 - 1).toNat = T.us.length by omega]
    have sD : Same H (upd H D (.lst [])) := same_new (Same.refl H) hD
    refine lc_range (lo := 1) (n := T.us.length) (fun i H2 => H2 D = some (.lst ((fil (okD T) 1 i).map V.int)) ∧ Same H H2) ⟨upd_same, sD⟩ ?_ ?_
    · rintro i H2 hi' ⟨e, s2⟩
      have hd0 : (0 : Int) < 1 + (i : Int) := by omega
      have sm : ((fil (okD T) 1 i).map V.int).length < sizeLine := smallB (by rw [List.length_map]; exact Nat.le_trans (fil_len _ _ _) (by omega))
      have no : ∀ H3, H3 D = some (.lst ((fil (okD T) 1 i).map V.int)) → Same H H3 → okD T (1 + (i : Int)) = false → H3 D = some (.lst ((fil (okD T) 1 (i + 1)).map V.int)) ∧ Same H H3 := fun H3 e3 s3 z => ⟨by rw [fil_neg (by rw [z]; exact Bool.false_ne_true)]; exact e3, s3⟩
      refine ⟨rfl, _, rfl, .inl ⟨_, rfl, _, rfl, _, _, rfl, rfl, hd0, rfl, _, rfl, ?_⟩⟩
      rw [vdec]
      cases hc1 : decide ((T.us.length : Int) % (1 + (i : Int)) = 0) with
      | false =>
        refine iteF (iteF (no H2 e s2 ?_))
        unfold okD
        rw [hc1]
        rfl
      | true =>
        refine iteT ⟨_, rfl, _, rfl, by omega, by omega, fun D2 hD2 => ?_⟩
        rw [show ((T.us.length : Int)).toNat = T.us.length by omega]
        have sD2 : Same H2 (upd H2 D2 (.lst [])) := same_new (Same.refl H2) hD2
        refine lc_range (lo := 0) (n := T.us.length) (fun j H4 => H4 D2 = some (.lst (((List.range j).map fun k => decide (T.us.getD k false = okD.cycD T.us k (1 + (i : Int))) && decide (T.ds.getD k false = okD.cycD T.ds k (1 + (i : Int)))).map V.bl)) ∧ Same H2 H4) ⟨upd_same, sD2⟩ ?_ ?_
        · rintro j H4 hj ⟨e4, s4⟩
          have s14 := s2.trans s4
          have m0 := Int.emod_nonneg (j : Int) (by omega : 1 + (i : Int) ≠ 0)
          have m1 : (j : Int) % (1 + (i : Int)) ≤ (j : Int) := by
            rcases Int.lt_or_le (j : Int) (1 + (i : Int)) with q | q
            · rw [Int.emod_eq_of_lt (by omega) q]
              exact Int.le_refl _
            · have := Int.emod_lt_of_pos (j : Int) hd0
              omega
          have g1 : ∀ l : List Bool, l.length = T.us.length → atI (l.map V.bl) (0 + (j : Int)) = some (.bl (l.getD j false)) := fun l hl => by
            rw [blI_get (by omega) (by omega), show (0 + (j : Int)).toNat = j by omega]
          have g2 : ∀ l : List Bool, l.length = T.us.length → atI (l.map V.bl) ((0 + (j : Int)) % (1 + (i : Int))) = some (.bl (okD.cycD l j (1 + (i : Int)))) := fun l hl => by
            rw [Int.zero_add, blI_get m0 (by omega)]
            rfl
          refine ⟨rfl, _, rfl, _, rfl, u, _, _, _, rfl, rfl, SqL.of (s14 _ _ a.l.us), g1 _ rfl, _, rfl, _, rfl, .inl ⟨_, rfl, _, rfl, _, _, rfl, rfl, hd0, u, _, _, _, rfl, rfl, SqL.of (s14 _ _ a.l.us), g2 _ rfl, rfl, _, rfl, ?_⟩⟩
          rw [vdecB]
          have ext : ∀ b : Bool, (decide (T.us.getD j false = okD.cycD T.us j (1 + (i : Int))) && decide (T.ds.getD j false = okD.cycD T.ds j (1 + (i : Int)))) = b → ((List.range (j + 1)).map fun k => decide (T.us.getD k false = okD.cycD T.us k (1 + (i : Int))) && decide (T.ds.getD k false = okD.cycD T.ds k (1 + (i : Int)))).map V.bl = ((List.range j).map fun k => decide (T.us.getD k false = okD.cycD T.us k (1 + (i : Int))) && decide (T.ds.getD k false = okD.cycD T.ds k (1 + (i : Int)))).map V.bl ++ [V.bl b] := fun b hb => by
            rw [List.range_succ, List.map_append, List.map_append, ← hb]
            rfl
          have fin : ∀ b : Bool, (decide (T.us.getD j false = okD.cycD T.us j (1 + (i : Int))) && decide (T.ds.getD j false = okD.cycD T.ds j (1 + (i : Int)))) = b → ∃ acc, H4 D2 = some (.lst acc) ∧ acc.length < sizeLine ∧ (upd H4 D2 (.lst (acc ++ [V.bl b])) D2 = some (.lst (((List.range (j + 1)).map fun k => decide (T.us.getD k false = okD.cycD T.us k (1 + (i : Int))) && decide (T.ds.getD k false = okD.cycD T.ds k (1 + (i : Int)))).map V.bl)) ∧ Same H2 (upd H4 D2 (.lst (acc ++ [V.bl b])))) := fun b hb => ⟨_, e4, smallB (by rw [List.length_map, List.length_map, List.length_range]; omega), by rw [ext b hb]; exact upd_same, fun o z hz => by rw [upd_ne (ne_of_none hz hD2)]; exact s4 o z hz⟩
          cases q1 : decide (T.us.getD j false = okD.cycD T.us j (1 + (i : Int))) with
          | false => exact iteF (fin false (by rw [q1]; rfl))
          | true =>
            refine iteT ⟨_, rfl, _, rfl, d, _, _, _, rfl, rfl, SqL.of (s14 _ _ a.l.ds), g1 _ ok.len, _, rfl, _, rfl, .inl ⟨_, rfl, _, rfl, _, _, rfl, rfl, hd0, d, _, _, _, rfl, rfl, SqL.of (s14 _ _ a.l.ds), g2 _ ok.len, rfl, ?_⟩⟩
            refine fin _ ?_
            rw [vdecB, q1]
            rfl
        · rintro H4 ⟨e4, s4⟩
          refine ⟨D2, _, rfl, SqL.of e4, _, rfl, ?_⟩
          have ex : okD T (1 + (i : Int)) = ((List.range T.us.length).map fun k => decide (T.us.getD k false = okD.cycD T.us k (1 + (i : Int))) && decide (T.ds.getD k false = okD.cycD T.ds k (1 + (i : Int)))).all id := by
            show (_ && _) = _
            rw [hc1]
            rfl
          cases ha2 : ((List.range T.us.length).map fun k => decide (T.us.getD k false = okD.cycD T.us k (1 + (i : Int))) && decide (T.ds.getD k false = okD.cycD T.ds k (1 + (i : Int)))).all id with
          | false => exact iteF (no H4 (s4 _ _ e) (s2.trans s4) (by rw [ex, ha2]))
          | true =>
            refine iteT ⟨_, rfl, _, s4 _ _ e, sm, ?_, fun b o z => ?_⟩
            · rw [fil_pos (by rw [ex, ha2]), List.map_append]
              exact upd_same
            · rw [upd_ne (ne_of_none z hD)]
              exact (s2.trans s4) b o z
    · rintro H1 ⟨e1, s1⟩
      have g0 : atI ((fil (okD T) 1 T.us.length).map V.int) 0 = some (.int (sz : Nat)) := atI_nat (j := 0) (by rw [List.getElem?_map, z0]; rfl)
      refine ⟨D, _, _, _, rfl, rfl, SqL.of e1, g0, ?_⟩
      -- the window
      refine ⟨_, rfl, _, rfl, _, _, rfl, rfl, _, rfl, _, rfl, _, _, rfl, rfl, _, _, rfl, rfl, _, _, rfl, fun D8 hD8 => ?_⟩
      rw [show (T.hi + (T.us.length : Int) + 1 - (T.lo - (T.us.length : Int))).toNat = T.cs.length + T.us.length + T.us.length by omega]
      refine lc_itF (G := fun _ => True) walk_range hD8 (fun i => (irow (T.lo - T.us.length) i).map V.int) rfl (fun i hi' => smallB (by rw [List.length_map]; unfold irow; rw [List.length_map, List.length_range]; omega)) (fun _ _ => trivial) ?_ ?_ ?_ ?_ ?_
      · rintro i x H2 H3 hi' e s2 ⟨rfl, rfl⟩
        refine ⟨rfl, _, rfl, e, s2, ?_⟩
        rw [irow_succ, List.map_append]
        rfl
      · exact fun x H' Q Q' h q => h _ _ q
      · exact fun σ2 H2 Q1 Q2 h q => h _ _ q
      · rintro σ2 H2 Q1 Q2 h ⟨v, hv, q⟩
        exact ⟨v, hv, h _ _ q⟩
      intro H8 e8 s8
      have len8 : ((irow (T.lo - T.us.length) (T.cs.length + T.us.length + T.us.length)).map V.int).length = T.cs.length + T.us.length + T.us.length := by
        rw [List.length_map]; unfold irow; rw [List.length_map, List.length_range]
      have s08 := s1.trans s8
      have hm' : (0 : Int) < (T.us.length : Int) := by omega
      -- tops
      refine ⟨_, rfl, D8, rfl, ⟨_, SqL.of e8⟩, fun D9 hD9 => ?_⟩
      refine lc_it (walk_list2 (SqL.of e8)) (fun i H2 => H2 D9 = some (.lst ((fil (fun n => !decide (T.has n = T.U n)) (T.lo - T.us.length) i).map V.int)) ∧ Same H8 H2) ⟨upd_same, same_new (Same.refl H8) hD9⟩ (fun i H2 _ h => h.2) ?_ ?_
      · rintro i x H2 H3 hi' ⟨e, s2⟩ ⟨rfl, e4⟩
        obtain ⟨n, hn, rfl⟩ := int_at e4
        obtain ⟨rfl, hiN⟩ := irow_at hn
        have sA := s08.trans s2
        refine ⟨rfl, _, rfl, _, rfl, t, c, u, d, T, _, rfl, a.same sA, ok, _, rfl, _, rfl, .inl ⟨_, rfl, _, rfl, _, _, rfl, rfl, hm', u, _, _, _, rfl, rfl, SqL.of (sA _ _ a.l.us), cyc_get (n := T.lo - T.us.length + (i : Int)) rfl hm, rfl, _, rfl, ?_⟩⟩
        rw [vdecB]
        cases hb : (!decide (T.has (T.lo - T.us.length + (i : Int)) = T.U (T.lo - T.us.length + (i : Int)))) with
        | false =>
          rw [show (!decide (T.has (T.lo - T.us.length + (i : Int)) = cyc T.us (T.lo - T.us.length + (i : Int)))) = false from hb]
          refine iteF ⟨?_, s2⟩
          rw [fil_neg (by rw [hb]; exact Bool.false_ne_true)]
          exact e
        | true =>
          rw [show (!decide (T.has (T.lo - T.us.length + (i : Int)) = cyc T.us (T.lo - T.us.length + (i : Int)))) = true from hb]
          refine iteT ⟨_, rfl, _, e, smallB (by rw [List.length_map]; exact Nat.le_trans (fil_len _ _ _) (by omega)), ?_, fun b o z => ?_⟩
          · rw [fil_pos hb, List.map_append]
            exact upd_same
          · rw [upd_ne (ne_of_none z hD9)]
            exact s2 b o z
      rintro H9 ⟨e9, s9⟩
      rw [len8] at e9
      have e8' := s9 _ _ e8
      have s09 := s08.trans s9
      refine ⟨_, rfl, D8, rfl, ⟨_, SqL.of e8'⟩, fun D10 hD10 => ?_⟩
      refine lc_it (walk_list2 (SqL.of e8')) (fun i H2 => H2 D10 = some (.lst ((fil (fun n => !decide (T.has n = T.D n)) (T.lo - T.us.length) i).map V.int)) ∧ Same H9 H2) ⟨upd_same, same_new (Same.refl H9) hD10⟩ (fun i H2 _ h => h.2) ?_ ?_
      · rintro i x H2 H3 hi' ⟨e, s2⟩ ⟨rfl, e4⟩
        obtain ⟨n, hn, rfl⟩ := int_at e4
        obtain ⟨rfl, hiN⟩ := irow_at hn
        have sA := s09.trans s2
        refine ⟨rfl, _, rfl, _, rfl, t, c, u, d, T, _, rfl, a.same sA, ok, _, rfl, _, rfl, .inl ⟨_, rfl, _, rfl, _, _, rfl, rfl, hm', d, _, _, _, rfl, rfl, SqL.of (sA _ _ a.l.ds), cyc_get (n := T.lo - T.us.length + (i : Int)) ok.len hm, rfl, _, rfl, ?_⟩⟩
        rw [vdecB]
        cases hb : (!decide (T.has (T.lo - T.us.length + (i : Int)) = T.D (T.lo - T.us.length + (i : Int)))) with
        | false =>
          rw [show (!decide (T.has (T.lo - T.us.length + (i : Int)) = cyc T.ds (T.lo - T.us.length + (i : Int)))) = false from hb]
          refine iteF ⟨?_, s2⟩
          rw [fil_neg (by rw [hb]; exact Bool.false_ne_true)]
          exact e
        | true =>
          rw [show (!decide (T.has (T.lo - T.us.length + (i : Int)) = cyc T.ds (T.lo - T.us.length + (i : Int)))) = true from hb]
          refine iteT ⟨_, rfl, _, e, smallB (by rw [List.length_map]; exact Nat.le_trans (fil_len _ _ _) (by omega)), ?_, fun b o z => ?_⟩
          · rw [fil_pos hb, List.map_append]
            exact upd_same
          · rw [upd_ne (ne_of_none z hD10)]
            exact s2 b o z
      rintro H10 ⟨e10, s10⟩
      rw [len8] at e10
      have e9' := s10 _ _ e9
      have s010 := s09.trans s10
      refine ⟨_, rfl, _, rfl, _, .inl ⟨_, SqL.of e9', rfl⟩, ?_⟩
      by_cases hnil : fil (fun n => !decide (T.has n = T.U n)) (T.lo - T.us.length) (T.cs.length + T.us.length + T.us.length) = []
      · rw [hnil]
        refine iteF ?_
        exact tail H10 0 (-1) sz _ _ _ (form_none ok z2 (tops_nil ok hnil)) z1 (by omega) (by omega) (by omega) (by omega) (by omega) s010
      · obtain ⟨r, v, hv, _⟩ := fil_last hnil
        obtain ⟨v1, v2, v3, v4⟩ := tops_last ok hv
        obtain ⟨b, b0, b1, b2, b3⟩ := bottoms_first ok ⟨v, v1⟩
        rw [hv]
        have ne : (!((r ++ [v]).map V.int).isEmpty) = true := by cases r <;> rfl
        rw [ne]
        rw [hv, List.map_append] at e9'
        refine iteT ⟨_, rfl, _, rfl, D9, _, _, _, rfl, rfl, SqL.of e9', atI_last _ _, ?_⟩
        refine ⟨_, rfl, _, _, rfl, rfl, _, rfl, D10, _, _, _, rfl, rfl, SqL.of e10, atI_nat (j := 0) (by rw [List.getElem?_map, b0]; rfl), _, _, rfl, ?_⟩
        have fm := form_some z2 v1 v2 b1 b2
        have el : (if v + 1 < b then v + 1 else b) = (if b < v + 1 then b else v + 1) := by split <;> split <;> omega
        rw [el] at fm
        refine tail H10 (if b < v + 1 then b else v + 1) v sz _ _ _ fm z1 ?_ ?_ (by omega) (by omega) ?_ s010
        · split <;> omega
        · split <;> omega
        · split <;> omega
end
end My
set_option Elab.async false
set_option linter.all false
set_option maxRecDepth 100000
set_option maxHeartbeats 8000000
namespace My
open PySem PySem.Spec PyProof.Rows L2
local macro_rules | `(tactic| walk_at "lv") => `(tactic| first | exact Or.inl rfl | exact Or.inr rfl)
section
variable {P : Program} {w : World} {K : PySem.W.Frag} {mg : Str → Option Value} {base : Heap}
/-- [draw(2) == 1 for k in range(m)] -/
theorem lc_draw {σ : L2.St} {H : Hp} {Q : VK} {i j m : Nat} {p c : Addr} (hj : σ[j]? = some (some (.int (m : Int)))) (hm2 : m ≤ 60000) (hh : HandC H p c) (hp : ∀ v, ((wipe σ [i]).set i (some v))[0]? = some (some (.ref p)))
    (hw : ∀ v, wipe ((wipe σ [i]).set i (some v)) [i] = wipe σ [i])
    (k : ∀ D (bs : List Bool) H', bs.length = m → H D = none → H' D = some (.lst (bs.map V.bl)) → HandC H' p c → But p H H' → Q (.ref D) H') :
    tLc (iRng1 (tCons (tVar j) tNil)) (gName i) tYes (tOp rEq (tCall spDraw [] E0 (tCons (tVar 0) (tCons (tC (.int 2)) tNil))) (tC (.int 1))) [i] σ H Q := by
  refine ⟨_, hj, _, rfl, by omega, by omega, fun D hD => ?_⟩
  rw [show ((m : Int)).toNat = m by omega]
  have hn := hh.ne hD
  refine lc_range (lo := 0) (n := m) (fun x H2 => ∃ bs : List Bool, bs.length = x ∧ H2 D = some (.lst (bs.map V.bl)) ∧ HandC H2 p c ∧ But p H H2) ⟨[], rfl, upd_same, hh.upd hn.1 hn.2, fun b o hb e => by rw [upd_ne (ne_of_none e hD)]; exact e⟩ ?_ ?_
  · rintro x H2 hx ⟨bs, hl, e, h2, b2⟩
    refine ⟨hw _, _, hp _, p, c, 2, rfl, h2, ⟨by decide, by decide⟩, fun r H3 r0 r1 h3 b3 => ⟨rfl, _, b3 _ _ hn.1.symm e, smallB (by rw [List.length_map]; omega), bs ++ [decide (V.int r = V.int 1)], by rw [List.length_append, hl]; rfl, ?_, h3.upd hn.1 hn.2, fun b o hb z => ?_⟩⟩
    · rw [List.map_append]
      exact upd_same
    · rw [upd_ne (ne_of_none z hD)]
      exact b3 _ _ hb (b2 _ _ hb z)
  · rintro H2 ⟨bs, hl, e, h2, b2⟩
    exact k D bs H2 hl hD e h2 b2
theorem HandC.neb {H : Hp} {p c u : Addr} {bs : List Bool} (h : HandC H p c) (e : H u = some (.lst (bs.map V.bl))) : u ≠ p := by
  obtain ⟨cs, i, r, t, e1, _, _⟩ := h
  exact ne_of e e1 (by
    intro z
    cases bs with
    | nil => cases z
    | cons b r => cases z)
theorem sizes_at {r : Int} (h0 : 0 ≤ r) (h1 : r < 12) : ∃ m : Nat, atI [V.int 1, V.int 2, V.int 3, V.int 4, V.int 6, V.int 1, V.int 5, V.int 2, V.int 8, V.int 9, V.int 12, V.int 7] r = some (.int (m : Int)) ∧ 0 < m ∧ m ≤ 12 := by
  have : r = 0 ∨ r = 1 ∨ r = 2 ∨ r = 3 ∨ r = 4 ∨ r = 5 ∨ r = 6 ∨ r = 7 ∨ r = 8 ∨ r = 9 ∨ r = 10 ∨ r = 11 := by omega
  rcases this with rfl | rfl | rfl | rfl | rfl | rfl | rfl | rfl | rfl | rfl | rfl | rfl
  · exact ⟨1, rfl, by decide, by decide⟩
  · exact ⟨2, rfl, by decide, by decide⟩
  · exact ⟨3, rfl, by decide, by decide⟩
  · exact ⟨4, rfl, by decide, by decide⟩
  · exact ⟨6, rfl, by decide, by decide⟩
  · exact ⟨1, rfl, by decide, by decide⟩
  · exact ⟨5, rfl, by decide, by decide⟩
  · exact ⟨2, rfl, by decide, by decide⟩
  · exact ⟨8, rfl, by decide, by decide⟩
  · exact ⟨9, rfl, by decide, by decide⟩
  · exact ⟨12, rfl, by decide, by decide⟩
  · exact ⟨7, rfl, by decide, by decide⟩
theorem far_at {r m : Int} (h0 : 0 ≤ r) (h1 : r < 4) (m0 : 0 ≤ m) (m1 : m ≤ 8) : ∃ lo : Int, atI [V.int (20001 - m), V.int (-20000), V.int (19990 - m), V.int (-19980)] r = some (.int lo) ∧ -20000 ≤ lo ∧ lo + m ≤ 20001 := by
  have : r = 0 ∨ r = 1 ∨ r = 2 ∨ r = 3 := by omega
  rcases this with rfl | rfl | rfl | rfl
  · exact ⟨_, rfl, by omega, by omega⟩
  · exact ⟨_, rfl, by omega, by omega⟩
  · exact ⟨_, rfl, by omega, by omega⟩
  · exact ⟨_, rfl, by omega, by omega⟩
/-! ### _law_telling_drawn -/
structure Drawn (T : Tl) : Prop where
  ok : T.Ok
  m : T.us.length ≤ 12
  c : T.cs.length ≤ 8
  lo : -20000 ≤ T.lo
  hi : T.hi ≤ 20000
def spTD : Sp := fun vs H Q _ => ∃ (p c : Addr) (far : Bool), vs = [.ref p, .bl far] ∧ HandC H p c ∧ ∀ t c' u' d' T H', HandC H' p c → But p H H' → TellAt H' t T c' u' d' → Drawn T → (far = false → -6 ≤ T.lo ∧ T.lo ≤ 6) → Q (.ref t) H'
abbrev s_td : Stmt := top 43
abbrev N_td : List Str := ["_law_hand_here", "_law_far", "_law_sizes", "_law_modulus", "_law_style", "_law_ups", "_law_downs", "_law_many", "_law_low", "_law_core", "_law_k"]
theorem sc_td : FnScope N_td ["_law_hand_here", "_law_far"] (defScope s_td) := ⟨rfl, rfl, rfl, by decide +kernel, rfl, by decide +kernel, by decide +kernel⟩
theorem kp_td (F : At K mg "_law_telling_drawn" s_td) (GD : Keeps CX0 P w K mg base "_law_draw" 2 ["_law_hand_here", "_law_many"] spDraw) (N : Nb mg) : Keeps CX0 P w K mg base "_law_telling_drawn" 3 ["_law_hand_here", "_law_far"] spTD := by
  refine keeps_of F sc_td (fun _ _ _ _ _ _ us hl => match us, hl with | [_, _], _ => rfl) (fun vs H Q E h => ?_) (fun f cdv A outer s H vs Q E hr h => ?_)
  · obtain ⟨p, c, far, rfl, _⟩ := h
    rfl
  · obtain ⟨p, c, far, rfl, hh, kk⟩ := h
    -- the core and the end
    obtain ⟨t3, d3, tail3⟩ : ∃ tl, PSs (cxOf CX0 P w K mg base N_td "_law_telling_drawn" (defScope s_td) f cdv A outer s H E).nox ((defBody s_td).drop 10) tl ∧ ∀ (H1 : Hp) (x2 x4 : Option V) (sty lo : Int) (many : Nat) (us ds : List Bool) (u d : Addr), x4 = some (.int sty) → HandC H1 p c → But p H H1 → H1 u = some (.lst (us.map V.bl)) → H1 d = some (.lst (ds.map V.bl)) → ds.length = us.length → 0 < us.length → us.length ≤ 12 → many ≤ 8 → -20000 ≤ lo → lo + many ≤ 20001 → (far = false → -6 ≤ lo ∧ lo ≤ 6) →
        tl { nx := fun _ H' => Q .non H', rt := Q } [some (V.ref p), some (V.bl far), x2, some (V.int us.length), x4, some (V.ref u), some (V.ref d), some (V.int many), some (V.int lo), none, none] H1 := by
      refine ⟨_, (pss_cons (ps_setLc (i := 9) (own := [("_law_k", 10)]) (g := gName 10) (tt := tYes) rfl sc_td.nd rfl rfl (sw_true rfl rfl rfl (by decide +kernel)) (pi_range1 (by rfl) N.range (pa_cons (pv 7) pa_nil)) (blkOk_by (N := N_td) (sc := defScope s_td) (by decide +kernel)) (fun _ _ _ _ _ => (pg_name (i := 10) sc_td.nd rfl (by walk_at "lv"))) (fun _ _ _ _ _ => pts_nil) (fun _ _ _ _ _ => (pe_cmpR op_eq (pe_k GD hr (by rfl) pass0 (pa_cons (pv 0) (pa_cons pe_int pa_nil))) pe_int (nomark _))))
        (pss_cons (ps_if (PW.pt (pw_and (pt_cmpR op_eq (pv 4) pe_int (nomark _)) (pw_and1 (pt_cmpR op_eq (pe_k GD hr (by rfl) pass0 (pa_cons (pv 0) (pa_cons pe_int pa_nil))) pe_int (nomark _))))) (pss_one (ps_setLc (i := 9) (own := [("_law_k", 10)]) (g := gName 10) (tt := tYes) rfl sc_td.nd rfl rfl (sw_true rfl rfl rfl (by decide +kernel)) (pi_range1 (by rfl) N.range (pa_cons (pv 7) pa_nil)) (blkOk_by (N := N_td) (sc := defScope s_td) (by decide +kernel)) (fun _ _ _ _ _ => (pg_name (i := 10) sc_td.nd rfl (by walk_at "lv"))) (fun _ _ _ _ _ => pts_nil) (fun _ _ _ _ _ => (pe_ix (r := rIxL K) ix_list (pv 5) (pe_op op_mod (pe_callTy call_int1 (by rfl) N.int boot_int (pa_cons (pe_op op_add (pv 8) (pv 10)) pa_nil)) (pv 3)) (fun _ _ => rfl))))) pss_nil)
        (pss_one (ps_ret (pe_lst (pa_cons (pv 8) (pa_cons (pe_op op_sub (pe_op op_add (pv 8) (pv 7)) pe_int) (pa_cons (pv 9) (pa_cons (pv 3) (pa_cons (pv 5) (pa_cons (pv 6) pa_nil))))))))))), ?_⟩
      rintro H1 x2 x4 sty lo many us ds u d rfl h1 b1 eu ed el m0 m1 cm l0 l1 lz
      have fin : ∀ (H2 : Hp) (c1 : Addr) (cs : List Bool), cs.length = many → HandC H2 p c → But p H1 H2 → H2 c1 = some (.lst (cs.map V.bl)) →
          tRet (tLst (tCons (tVar 8) (tCons (tOp (rI0 fun i j => V.int (i - j)) (tOp (rI0 fun i j => V.int (i + j)) (tVar 8) (tVar 7)) (tC (V.int 1))) (tCons (tVar 9) (tCons (tVar 3) (tCons (tVar 5) (tCons (tVar 6) tNil))))))) { nx := fun _ H' => Q .non H', rt := Q } [some (V.ref p), some (V.bl far), x2, some (V.int us.length), some (V.int sty), some (V.ref u), some (V.ref d), some (V.int many), some (V.int lo), some (V.ref c1), none] H2 := by
        intro H2 c1 cs cl h2 b2 ec
        refine ⟨_, rfl, _, rfl, _, rfl, _, _, rfl, rfl, _, _, rfl, rfl, _, rfl, _, rfl, _, rfl, _, rfl, (by show 6 ≤ sizeLine; decide), fun t ht => ?_⟩
        have st := same_new (o := .lst [V.int lo, V.int (lo + (many : Int) - 1), V.ref c1, V.int us.length, V.ref u, V.ref d]) (Same.refl H2) ht
        refine kk t c1 u d ⟨lo, cs, us, ds⟩ _ (h2.same st) ((b1.trans b2).trans (But.of st)) ⟨?_, ⟨st _ _ ec, st _ _ (b2 _ _ (h1.neb eu) eu), st _ _ (b2 _ _ (h1.neb ed) ed)⟩⟩ ⟨⟨el, m0⟩, m1, by show cs.length ≤ 8; omega, l0, by show lo + (cs.length : Int) - 1 ≤ 20000; omega⟩ lz
        refine Eq.trans upd_same ?_
        show some (HO.lst [V.int lo, V.int (lo + (many : Int) - 1), V.ref c1, V.int us.length, V.ref u, V.ref d]) = some (HO.lst [V.int lo, V.int (lo + (cs.length : Int) - 1), V.ref c1, V.int us.length, V.ref u, V.ref d])
        rw [cl]
      dsimp only [tSeq, tAsg]
      refine lc_draw (j := 7) (i := 10) (m := many) rfl (by omega) h1 (fun _ => rfl) (fun _ => rfl) fun c1 cs H2 cl n1 e1 h2 b2 => ?_
      refine ⟨_, rfl, rfl, _, rfl, ite2 (fun q1 => ?_) (fun q1 => iteF (fin H2 c1 cs cl h2 b2 e1))⟩
      refine ⟨_, rfl, p, c, 2, rfl, h2, ⟨by decide, by decide⟩, fun r H3 r0 r1 h3 b3 => ⟨rfl, _, rfl, ite2 (fun q2 => ?_) (fun q2 => fin H3 c1 cs cl h3 (b2.trans b3) (b3 _ _ (h2.neb e1) e1))⟩⟩
      have b13 := b2.trans b3
      have eu3 := b13 _ _ (h1.neb eu) eu
      refine ⟨_, rfl, _, rfl, by omega, by omega, fun D hD => ?_⟩
      rw [show ((many : Int)).toNat = many by omega]
      refine lc_itF (G := fun _ => True) walk_range hD (fun x => ((List.range x).map fun k => cyc us (lo + (0 + (k : Nat)))).map V.bl) rfl (fun x hx => smallB (by rw [List.length_map, List.length_map, List.length_range]; omega)) (fun _ _ => trivial) ?_ ?_ ?_ ?_ ?_
      · rintro x v H4 H5 hx e s ⟨rfl, rfl⟩
        refine ⟨rfl, _, rfl, _, rfl, _, rfl, _, _, rfl, rfl, .inl ⟨_, rfl, _, rfl, _, _, rfl, rfl, (by omega : (0 : Int) < (us.length : Int)), u, _, _, _, rfl, rfl, SqL.of (s _ _ eu3), cyc_get (n := lo + (0 + (x : Int))) rfl m0, e, s, ?_⟩⟩
        rw [List.range_succ, List.map_append, List.map_append]
        rfl
      · exact fun x H' Q Q' h q => h _ _ q
      · exact fun σ2 H2 Q1 Q2 h q => h _ _ q
      · rintro σ2 H4 Q1 Q2 h ⟨x1, h1, x2, h2, x3, h3, i, j, e1, e2, q⟩
        rcases q with ⟨i', e3, x4, h4, i2, j2, e4, e5, e6, p', xs, ii, v, e7, e8, e9, e10, q⟩ | ⟨b', e3, x4, h4, i2, j2, e4, e5, e6, p', xs, ii, v, e7, e8, e9, e10, q⟩
        · exact ⟨x1, h1, x2, h2, x3, h3, i, j, e1, e2, .inl ⟨i', e3, x4, h4, i2, j2, e4, e5, e6, p', xs, ii, v, e7, e8, e9, e10, h _ _ q⟩⟩
        · exact ⟨x1, h1, x2, h2, x3, h3, i, j, e1, e2, .inr ⟨b', e3, x4, h4, i2, j2, e4, e5, e6, p', xs, ii, v, e7, e8, e9, e10, h _ _ q⟩⟩
      · intro H4 e4 s4
        exact fin H4 D _ (by rw [List.length_map, List.length_range]) (h3.same s4) (b13.trans (But.of s4)) e4
    -- how many, from where
    obtain ⟨t2, d2, tail2⟩ : ∃ tl, PSs (cxOf CX0 P w K mg base N_td "_law_telling_drawn" (defScope s_td) f cdv A outer s H E).nox ((defBody s_td).drop 7) tl ∧ ∀ (H1 : Hp) (x2 : Option V) (sty : Int) (us ds : List Bool) (u d : Addr), HandC H1 p c → But p H H1 → H1 u = some (.lst (us.map V.bl)) → H1 d = some (.lst (ds.map V.bl)) → ds.length = us.length → 0 < us.length → us.length ≤ 12 →
        tl { nx := fun _ H' => Q .non H', rt := Q } [some (V.ref p), some (V.bl far), x2, some (V.int us.length), some (V.int sty), some (V.ref u), some (V.ref d), none, none, none, none] H1 := by
      refine ⟨_, (pss_cons (ps_set (i := 7) sc_td.nd rfl (by walk_at "lv") (pe_k GD hr (by rfl) pass0 (pa_cons (pv 0) (pa_cons pe_int pa_nil))))
        (pss_cons (ps_set (i := 8) sc_td.nd rfl (by walk_at "lv") (pe_op op_sub (pe_k GD hr (by rfl) pass0 (pa_cons (pv 0) (pa_cons pe_int pa_nil))) pe_int))
        (pss_cons (ps_if (PW.pt (pw_and (pt_val (pv 1)) (pw_and1 (pt_cmpR op_eq (pe_k GD hr (by rfl) pass0 (pa_cons (pv 0) (pa_cons pe_int pa_nil))) pe_int (nomark _))))) (pss_one (ps_set (i := 8) sc_td.nd rfl (by walk_at "lv") (pe_ix ix_tup (pe_tup (pa_cons (pe_op op_sub pe_int (pv 7)) (pa_cons (pe_un un_neg pe_int) (pa_cons (pe_op op_sub pe_int (pv 7)) (pa_cons (pe_un un_neg pe_int) pa_nil))))) (pe_k GD hr (by rfl) pass0 (pa_cons (pv 0) (pa_cons pe_int pa_nil))) (fun _ _ => rfl)))) pss_nil)
        d3))), ?_⟩
      rintro H1 x2 sty us ds u d h1 b1 eu ed el m0 m1
      refine ⟨_, rfl, p, c, 9, rfl, h1, ⟨by decide, by decide⟩, fun r H2 r0 r1 h2 b2 => ?_⟩
      refine ⟨_, rfl, p, c, 13, rfl, h2, ⟨by decide, by decide⟩, fun r' H3 r0' r1' h3 b3 => ⟨_, _, rfl, rfl, ?_⟩⟩
      obtain ⟨many, rfl⟩ := Int.eq_ofNat_of_zero_le r0
      have b13 := b2.trans b3
      have eu3 := b13 _ _ (h1.neb eu) eu
      have ed3 := b13 _ _ (h1.neb ed) ed
      refine ⟨_, rfl, _, rfl, ?_⟩
      cases far with
      | false =>
        refine iteF ?_
        exact tail3 H3 x2 _ sty _ many us ds u d rfl h3 (b1.trans b13) eu3 ed3 el m0 m1 (by omega) (by omega) (by omega) (fun _ => by omega)
      | true =>
        refine iteT ⟨_, rfl, p, c, 6, rfl, h3, ⟨by decide, by decide⟩, fun r2 H4 r20 r21 h4 b4 => ⟨rfl, _, rfl, ite2 (fun q => ?_) (fun q => ?_)⟩⟩
        · refine ⟨_, rfl, _, _, rfl, rfl, _, rfl, _, rfl, _, _, rfl, rfl, _, rfl, (by show 4 ≤ sizeLine; decide), fun t ht => ?_⟩
          have st := same_new (o := .tup [V.int (20001 - (many : Int)), V.int (-20000), V.int (19990 - (many : Int)), V.int (-19980)]) (Same.refl H4) ht
          refine ⟨_, rfl, p, c, 4, rfl, h4.same st, ⟨by decide, by decide⟩, fun r3 H5 r30 r31 h5 b5 => ?_⟩
          obtain ⟨lo, e1, e2, e3⟩ := far_at (m := (many : Int)) r30 r31 (by omega) (by omega)
          refine ⟨t, _, _, _, rfl, rfl, SqT.of (b5 _ _ (h4.ne ht).1.symm upd_same), e1, ?_⟩
          have b14 := b13.trans (b4.trans ((But.of st).trans b5))
          exact tail3 H5 x2 _ sty lo many us ds u d rfl h5 (b1.trans b14) (b14 _ _ (h1.neb eu) eu) (b14 _ _ (h1.neb ed) ed) el m0 m1 (by omega) e2 e3 (fun z => nomatch z)
        · have b14 := b13.trans b4
          exact tail3 H4 x2 _ sty _ many us ds u d rfl h4 (b1.trans b14) (b14 _ _ (h1.neb eu) eu) (b14 _ _ (h1.neb ed) ed) el m0 m1 (by omega) (by omega) (by omega) (fun z => nomatch z)
    obtain ⟨t1, d1, tail1⟩ : ∃ tl, PSs (cxOf CX0 P w K mg base N_td "_law_telling_drawn" (defScope s_td) f cdv A outer s H E).nox ((defBody s_td).drop 6) tl ∧ ∀ (H1 : Hp) (x2 : Option V) (sty : Int) (us ds : List Bool) (u d : Addr), HandC H1 p c → But p H H1 → H1 u = some (.lst (us.map V.bl)) → H1 d = some (.lst (ds.map V.bl)) → ds.length = us.length → 0 < us.length → us.length ≤ 12 →
        tl { nx := fun _ H' => Q .non H', rt := Q } [some (V.ref p), some (V.bl far), x2, some (V.int us.length), some (V.int sty), some (V.ref u), some (V.ref d), none, none, none, none] H1 := by
      refine ⟨_, (pss_cons (ps_if (PW.pt (pw_and (pt_cmpR op_eq (pv 4) pe_int (nomark _)) (pw_and1 (pt_cmpR op_gt (pv 3) pe_int (nomark _))))) (pss_one (ps_set (i := 5) sc_td.nd rfl (by walk_at "lv") (pe_lc (own := [("_law_k", 10)]) (g := gName 10) (tt := tYes) rfl sc_td.nd (pi_range1 (by rfl) N.range (pa_cons (pv 3) pa_nil)) (blkOk_by (N := N_td) (sc := defScope s_td) (by decide +kernel)) (fun _ _ _ _ _ => (pg_name (i := 10) sc_td.nd rfl (by walk_at "lv"))) (fun _ _ _ _ _ => pts_nil) (fun _ _ _ _ _ => (pe_ix (r := rIxL K) ix_list (pv 5) (pe_op op_mul (pe_op op_fdiv (pv 10) pe_int) pe_int) (fun _ _ => rfl)))))) pss_nil)
        d2), ?_⟩
      rintro H1 x2 sty us ds u d h1 b1 eu ed el m0 m1
      refine ⟨_, rfl, rfl, _, rfl, ite2 (fun q1 => ?_) (fun q1 => iteF (tail2 H1 x2 sty us ds u d h1 b1 eu ed el m0 m1))⟩
      refine ⟨_, rfl, _, _, rfl, rfl, _, rfl, ite2 (fun q2 => ?_) (fun q2 => tail2 H1 x2 sty us ds u d h1 b1 eu ed el m0 m1)⟩
      refine ⟨_, rfl, _, rfl, by omega, by omega, fun D hD => ?_⟩
      rw [show ((us.length : Int)).toNat = us.length by omega]
      refine lc_itF (G := fun _ => True) walk_range hD (fun x => ((List.range x).map fun k => us.getD ((0 + (k : Nat) : Int) / 2 * 2).toNat false).map V.bl) rfl (fun x hx => smallB (by rw [List.length_map, List.length_map, List.length_range]; omega)) (fun _ _ => trivial) ?_ ?_ ?_ ?_ ?_
      · rintro x v H4 H5 hx e s ⟨rfl, rfl⟩
        refine ⟨rfl, _, rfl, _, rfl, _, _, rfl, rfl, ⟨by decide, by decide⟩, _, _, rfl, rfl, .inr ⟨by decide, by decide⟩, u, _, _, _, rfl, rfl, SqL.of (s _ _ eu), blI_get (i := (0 + (x : Int)) / 2 * 2) (by omega) (by omega), e, s, ?_⟩
        rw [List.range_succ, List.map_append, List.map_append]
        rfl
      · exact fun x H' Q Q' h q => h _ _ q
      · exact fun σ2 H2 Q1 Q2 h q => h _ _ q
      · rintro σ2 H4 Q1 Q2 h ⟨x1, h1, x2, h2, i, j, e1, e2, e3, i2, j2, e4, e5, e6, p', xs, ii, v, e7, e8, e9, e10, q⟩
        exact ⟨x1, h1, x2, h2, i, j, e1, e2, e3, i2, j2, e4, e5, e6, p', xs, ii, v, e7, e8, e9, e10, h _ _ q⟩
      · intro H4 e4 s4
        have hl : ((List.range us.length).map fun k => us.getD ((0 + (k : Nat) : Int) / 2 * 2).toNat false).length = us.length := by rw [List.length_map, List.length_range]
        have := tail2 H4 x2 sty _ ds D d (h1.same s4) (b1.trans (But.of s4)) e4 (s4 _ _ ed) (by rw [hl]; exact el) (by rw [hl]; exact m0) (by rw [hl]; exact m1)
        rw [hl] at this
        exact this
    refine ⟨_, (pss_cons (ps_set (i := 2) sc_td.nd rfl (by walk_at "lv") (pe_tup (pa_cons pe_int (pa_cons pe_int (pa_cons pe_int (pa_cons pe_int (pa_cons pe_int (pa_cons pe_int (pa_cons pe_int (pa_cons pe_int (pa_cons pe_int (pa_cons pe_int (pa_cons pe_int (pa_cons pe_int pa_nil))))))))))))))
        (pss_cons (ps_set (i := 3) sc_td.nd rfl (by walk_at "lv") (pe_ix ix_tup (pv 2) (pe_k GD hr (by rfl) pass0 (pa_cons (pv 0) (pa_cons pe_int pa_nil))) (fun _ _ => rfl)))
        (pss_cons (ps_set (i := 4) sc_td.nd rfl (by walk_at "lv") (pe_k GD hr (by rfl) pass0 (pa_cons (pv 0) (pa_cons pe_int pa_nil))))
        (pss_cons (ps_set (i := 5) sc_td.nd rfl (by walk_at "lv") (pe_lc (own := [("_law_k", 10)]) (g := gName 10) (tt := tYes) rfl sc_td.nd (pi_range1 (by rfl) N.range (pa_cons (pv 3) pa_nil)) (blkOk_by (N := N_td) (sc := defScope s_td) (by decide +kernel)) (fun _ _ _ _ _ => (pg_name (i := 10) sc_td.nd rfl (by walk_at "lv"))) (fun _ _ _ _ _ => pts_nil) (fun _ _ _ _ _ => (pe_cmpR op_eq (pe_k GD hr (by rfl) pass0 (pa_cons (pv 0) (pa_cons pe_int pa_nil))) pe_int (nomark _)))))
        (pss_cons (ps_set (i := 6) sc_td.nd rfl (by walk_at "lv") (pe_ifExp (pt_cmpR op_eq (pv 4) pe_int (nomark _)) (pe_callTy call_list_of (by rfl) N.list (by decide +kernel) (pa_cons (pv 5) pa_nil)) (pe_lc (own := [("_law_k", 10)]) (g := gName 10) (tt := tYes) rfl sc_td.nd (pi_range1 (by rfl) N.range (pa_cons (pv 3) pa_nil)) (blkOk_by (N := N_td) (sc := defScope s_td) (by decide +kernel)) (fun _ _ _ _ _ => (pg_name (i := 10) sc_td.nd rfl (by walk_at "lv"))) (fun _ _ _ _ _ => pts_nil) (fun _ _ _ _ _ => (pe_cmpR op_eq (pe_k GD hr (by rfl) pass0 (pa_cons (pv 0) (pa_cons pe_int pa_nil))) pe_int (nomark _))))))
        (pss_cons (ps_if (pt_cmpR op_eq (pv 4) pe_int (nomark _)) (pss_cons (ps_set (i := 5) sc_td.nd rfl (by walk_at "lv") (pe_op op_rep (pe_lst (pa_cons pe_bl pa_nil)) (pv 3))) (pss_one (ps_set (i := 6) sc_td.nd rfl (by walk_at "lv") (pe_op op_rep (pe_lst (pa_cons pe_bl pa_nil)) (pv 3))))) pss_nil)
        d1)))))), ?_⟩
    refine ⟨(by show 12 ≤ sizeLine; decide), fun t0 ht0 => ?_⟩
    have s0 := same_new (o := .tup [V.int 1, V.int 2, V.int 3, V.int 4, V.int 6, V.int 1, V.int 5, V.int 2, V.int 8, V.int 9, V.int 12, V.int 7]) (Same.refl H) ht0
    refine ⟨_, rfl, _, rfl, p, c, 12, rfl, hh.same s0, ⟨by decide, by decide⟩, fun r H1 r0 r1 h1 b1 => ?_⟩
    obtain ⟨m, em, m0, m1⟩ := sizes_at r0 r1
    refine ⟨t0, _, _, _, rfl, rfl, SqT.of (b1 _ _ (hh.ne ht0).1.symm upd_same), em, ?_⟩
    refine ⟨_, rfl, p, c, 4, rfl, h1, ⟨by decide, by decide⟩, fun sty H2 y0 y1 h2 b2 => ?_⟩
    have b02 := ((But.of s0).trans b1).trans b2
    dsimp only [gName, tSeq, tAsg]
    refine lc_draw (j := 3) (i := 10) (m := m) rfl (by omega) h2 (fun _ => rfl) (fun _ => rfl) fun u us H3 ul n3 eu h3 b3 => ?_
    have b03 := b02.trans b3
    -- the two sides are told: what the first if does
    have ul1 : (us.length : Int) = (m : Int) := by omega
    have go : ∀ (H4 : Hp) (ds : List Bool) (d : Addr), ds.length = m → HandC H4 p c → But p H H4 → H4 u = some (.lst (us.map V.bl)) → H4 d = some (.lst (ds.map V.bl)) →
        tIfS (tTest (tOp rEq (tVar 4) (tC (V.int 1)))) (tSeq (tAsg (tOp rRep (tLst (tCons (tC (V.bl false)) tNil)) (tVar 3)) (gName 5)) (tAsg (tOp rRep (tLst (tCons (tC (V.bl false)) tNil)) (tVar 3)) (gName 6))) tNext { nx := t1 { nx := fun _ H' => Q .non H', rt := Q }, rt := Q } [some (V.ref p), some (V.bl far), some (V.ref t0), some (V.int (m : Int)), some (V.int sty), some (V.ref u), some (V.ref d), none, none, none, none] H4 := by
      intro H4 ds d dl h4 b4 eu4 ed4
      refine ⟨_, rfl, rfl, _, rfl, ite2 (fun q => ?_) (fun q => ?_)⟩
      · have rl : ∀ k : Nat, (List.replicate k [V.bl false]).flatten = (List.replicate k false).map V.bl := fun k => by rw [rep_flat, List.map_replicate]
        refine ⟨(by show 1 ≤ sizeLine; decide), fun l1 hl1 => ?_⟩
        have s1 := same_new (o := .lst [V.bl false]) (Same.refl H4) hl1
        refine ⟨_, rfl, l1, _, _, rfl, rfl, upd_same, by omega, by omega, ?_, fun u' hu' => ?_⟩
        · show 1 * _ ≤ _
          rw [Nat.one_mul]
          exact Nat.le_of_lt (smallB (by omega))
        rw [Int.toNat_natCast, rl] at *
        have s2 := same_new (o := .lst ((List.replicate m false).map V.bl)) s1 hu'
        refine ⟨(by show 1 ≤ sizeLine; decide), fun l2 hl2 => ?_⟩
        have s3 := same_new (o := .lst [V.bl false]) s2 hl2
        have hu2 : u' ≠ l2 := ne_of_none upd_same hl2
        refine ⟨_, rfl, l2, _, _, rfl, rfl, upd_same, by omega, by omega, ?_, fun d' hd' => ?_⟩
        · show 1 * _ ≤ _
          rw [Nat.one_mul]
          exact Nat.le_of_lt (smallB (by omega))
        rw [Int.toNat_natCast, rl] at *
        have s4 := same_new (o := .lst ((List.replicate m false).map V.bl)) s3 hd'
        have hu3 : u' ≠ d' := ne_of_none (by rw [upd_ne hu2]; exact upd_same) hd'
        have ln : (List.replicate m false).length = m := List.length_replicate
        have := tail1 _ (some (V.ref t0)) sty (List.replicate m false) (List.replicate m false) u' d' (h4.same s4) (b4.trans (But.of s4)) (by rw [upd_ne hu3, upd_ne hu2]; exact upd_same) upd_same rfl (by rw [ln]; exact m0) (by rw [ln]; exact m1)
        rw [ln] at this
        exact this
      · have := tail1 H4 (some (V.ref t0)) sty us ds u d h4 b4 eu4 ed4 (by omega) (by omega) (by omega)
        rw [ul1] at this
        exact this
    refine ⟨_, rfl, rfl, _, rfl, ite2 (fun q => ?_) (fun q => ?_)⟩
    · refine ⟨_, rfl, u, _, rfl, .inl (SqL.of eu), fun d hd => ?_⟩
      have s4 := same_new (o := .lst (us.map V.bl)) (Same.refl H3) hd
      exact go _ us d ul (h3.same s4) (b03.trans (But.of s4)) (s4 _ _ eu) upd_same
    · refine lc_draw (j := 3) (i := 10) (m := m) rfl (by omega) h3 (fun _ => rfl) (fun _ => rfl) fun d ds H4 dl n4 ed h4 b4 => ?_
      exact go H4 ds d dl h4 (b03.trans b4) (b4 _ _ (h3.neb eu) eu) ed
end
end My
set_option Elab.async false
set_option linter.all false
set_option maxRecDepth 100000
set_option maxHeartbeats 8000000
namespace My
open PySem PySem.Spec PyProof.Rows L2
local macro_rules | `(tactic| walk_at "lv") => `(tactic| first | exact Or.inl rfl | exact Or.inr rfl)
theorem rows_ok {T : Tl} {lo hi : Int} {d : Nat} : RowsOk lo hi (insOf T lo hi) d (resOf T.U d) (resOf T.D d) := by
  refine ⟨fil_asc _ _ _, fun n hn => ?_, fil_asc _ _ _, fun n hn => ?_, fil_asc _ _ _, fun n hn => ?_⟩
  · have := (mem_fil.mp hn).1
    omega
  · have := (mem_fil.mp hn).1
    omega
  · have := (mem_fil.mp hn).1
    omega
theorem mem_resOf {f : Int → Bool} {d : Nat} (hp : Per f d) (hd : 0 < d) (n : Int) : decide (n % (d : Int) ∈ resOf f d) = f n := by
  have k0 := Int.emod_nonneg n (by omega : (d : Int) ≠ 0)
  have k1 := Int.emod_lt_of_pos n (by omega : (0 : Int) < (d : Int))
  rw [← hp.mod n]
  cases e : f (n % (d : Int)) with
  | true => exact decide_eq_true (mem_fil.mpr ⟨⟨k0, by omega⟩, e⟩)
  | false => exact decide_eq_false fun z => by have := (mem_fil.mp z).2; rw [e] at this; cases this
theorem has_of {T : Tl} {lo hi : Int} {d : Nat} (fm : IsForm T.has T.U T.D lo hi d) (n : Int) : lotHas lo hi (insOf T lo hi) d (resOf T.U d) (resOf T.D d) n = T.has n := by
  unfold lotHas
  have hd := fm.least.pos
  by_cases h1 : hi < n
  · rw [if_pos h1, mem_resOf fm.least.pu hd, fm.above h1]
  · rw [if_neg h1]
    by_cases h2 : n < lo
    · rw [if_pos h2, mem_resOf fm.least.pd hd, fm.below h2]
    · rw [if_neg h2]
      cases e : T.has n with
      | true => exact decide_eq_true (mem_fil.mpr ⟨⟨by omega, by omega⟩, e⟩)
      | false => exact decide_eq_false fun z => by have := (mem_fil.mp z).2; rw [e] at this; cases this
theorem empty_fil {P : Int → Bool} {lo : Int} {n : Nat} (h : ∀ x, P x = false) : (fil P lo n).isEmpty = true := by
  cases e : fil P lo n with
  | nil => rfl
  | cons v r =>
    have := (mem_fil.mp (show v ∈ fil P lo n by rw [e]; exact List.mem_cons_self)).2
    rw [h v] at this
    cases this
theorem fil_empty {P : Int → Bool} {lo : Int} {n : Nat} (h : (fil P lo n).isEmpty = true) : ∀ x, lo ≤ x → x < lo + n → P x = false := fil_nil (List.isEmpty_iff.mp h)
theorem any_false {bs : List Bool} : bs.any id = false ↔ ∀ k, bs.getD k false = false := by
  constructor
  · intro h k; rw [List.getD_eq_getElem?_getD]
    cases e : bs[k]? with
    | none => rfl
    | some b =>
      cases b with
      | false => rfl
      | true =>
        have := List.any_eq_false.mp h true (List.mem_of_getElem? e)
        exact absurd rfl this
  · intro h
    refine List.any_eq_false.mpr fun b hb => ?_
    obtain ⟨k, hk, rfl⟩ := List.mem_iff_getElem.mp hb
    have := h k
    rw [List.getD_eq_getElem?_getD, List.getElem?_eq_getElem hk] at this
    show ¬ bs[k] = true
    have this : bs[k] = false := this
    rw [this]
    exact Bool.false_ne_true
theorem cyc_false {l : List Bool} (hl : 0 < l.length) : (∀ n, cyc l n = false) ↔ l.any id = false := by
  rw [any_false]
  constructor
  · intro h k
    rcases Nat.lt_or_ge k l.length with q | q
    · rw [← cyc_lt q]
      exact h _
    · rw [List.getD_eq_getElem?_getD, List.getElem?_eq_none q]
      rfl
  · intro h n
    exact h _
theorem bare_of {T : Tl} (ok : T.Ok) {lo hi : Int} {d : Nat} (fm : IsForm T.has T.U T.D lo hi d) :
    ((insOf T lo hi).isEmpty && ((resOf T.U d).isEmpty && (resOf T.D d).isEmpty)) = (!(T.cs.any id) && (!(T.us.any id) && !(T.ds.any id))) := by
  have hd := fm.least.pos
  have per : ∀ f : Int → Bool, Per f d → ((resOf f d).isEmpty = true ↔ ∀ n, f n = false) := fun f hp => by
    constructor
    · intro h n
      have k0 := Int.emod_nonneg n (by omega : (d : Int) ≠ 0)
      have k1 := Int.emod_lt_of_pos n (by omega : (0 : Int) < (d : Int))
      rw [← hp.mod n]
      exact fil_empty h _ k0 (by omega)
    · intro h
      exact empty_fil h
  have hh : T.hi = T.lo + T.cs.length - 1 := rfl
  rw [Bool.eq_iff_iff, Bool.and_eq_true, Bool.and_eq_true, Bool.and_eq_true, Bool.and_eq_true, per _ fm.least.pu, per _ fm.least.pd, Bool.not_eq_true', Bool.not_eq_true', Bool.not_eq_true', ← cyc_false (l := T.us) ok.pos, ← cyc_false (l := T.ds) (by rw [ok.len]; exact ok.pos)]
  constructor
  · rintro ⟨h1, h2, h3⟩
    have hz : ∀ n, T.has n = false := fun n => by
      rcases Int.lt_or_le hi n with q | q
      · rw [fm.above q, h2]
      · rcases Int.lt_or_le n lo with q2 | q2
        · rw [fm.below q2, h3]
        · exact fil_empty h1 n q2 (by omega)
    refine ⟨any_false.mpr fun k => ?_, h2, h3⟩
    rcases Nat.lt_or_ge k T.cs.length with q | q
    · have := hz (T.lo + (k : Int))
      rw [Tl.core (by omega) (by omega), show (T.lo + (k : Int) - T.lo).toNat = k by omega] at this
      exact this
    · rw [List.getD_eq_getElem?_getD, List.getElem?_eq_none q]
      rfl
  · rintro ⟨h1, h2, h3⟩
    refine ⟨empty_fil fun n => ?_, h2, h3⟩
    rcases Int.lt_or_le n T.lo with q | q
    · rw [Tl.below q]
      exact h3 n
    · rcases Int.lt_or_le T.hi n with q2 | q2
      · rw [Tl.above q2]
        exact h2 n
      · rw [Tl.core q q2]
        exact any_false.mp h1 _
theorem mem_cIns {T : Tl} {x : Int} : x ∈ cIns T ↔ (T.lo ≤ x ∧ x ≤ T.hi) ∧ T.cs.getD (x - T.lo).toNat false = true := by
  have hh : T.hi = T.lo + T.cs.length - 1 := rfl
  unfold cIns
  rw [List.mem_map]
  constructor
  · rintro ⟨k, hk, rfl⟩
    have := mem_res.mp hk
    refine ⟨by omega, ?_⟩
    rw [show (T.lo + k - T.lo).toNat = k.toNat by omega]
    exact this.2
  · rintro ⟨h1, h2⟩
    exact ⟨x - T.lo, mem_res.mpr ⟨by omega, h2⟩, by omega⟩
theorem dec_iff {p : Prop} [Decidable p] {b : Bool} (h : p ↔ b = true) : b = decide p := by
  cases b with
  | true => exact (decide_eq_true (h.mpr rfl)).symm
  | false => exact (decide_eq_false fun z => by have := h.mp z; cases this).symm
theorem told_parts {T : Tl} (ok : T.Ok) {ins us ds : List Int} (p1 : ins.Perm (cIns T)) (p2 : us.Perm (res T.us)) (p3 : ds.Perm (res T.ds)) : Told T ins us ds := by
  have hh : T.hi = T.lo + T.cs.length - 1 := rfl
  refine ⟨fun n hn => (mem_cIns.mp (p1.mem_iff.mp hn)).1, fun k hk => dec_iff ?_, fun n hn => ?_, fun k hk => dec_iff ?_, fun n hn => ?_, fun k hk => dec_iff ?_⟩
  · rw [p1.mem_iff, mem_cIns, show (T.lo + (k : Int) - T.lo).toNat = k by omega]
    exact ⟨fun h => h.2, fun h => ⟨by omega, h⟩⟩
  · have := (mem_res.mp (p2.mem_iff.mp hn)).1
    omega
  · rw [p2.mem_iff, mem_res, show (0 + (k : Int)).toNat = k by omega]
    exact ⟨fun h => h.2, fun h => ⟨by omega, h⟩⟩
  · have := (mem_res.mp (p3.mem_iff.mp hn)).1
    rw [ok.len] at this
    omega
  · rw [p3.mem_iff, mem_res, show (0 + (k : Int)).toNat = k by omega]
    exact ⟨fun h => h.2, fun h => ⟨by rw [ok.len]; omega, h⟩⟩
theorem cIns_nodup (T : Tl) : (cIns T).Nodup := (fil_nodup _ _ _).map _ fun a b h z => h (by omega)
theorem parts_lens {T : Tl} : (cIns T).length ≤ T.cs.length ∧ (res T.us).length ≤ T.us.length ∧ (res T.ds).length ≤ T.ds.length := by
  refine ⟨?_, fil_len _ _ _, fil_len _ _ _⟩
  unfold cIns
  rw [List.length_map]
  exact fil_len _ _ _
def Tl.flip (T : Tl) (f : Nat) : Tl := ⟨T.lo, T.cs.set f (!T.cs.getD f false), T.us, T.ds⟩
theorem flip_has {T : Tl} {f : Nat} (hf : f < T.cs.length) : (T.flip f).has (T.lo + (f : Int)) ≠ T.has (T.lo + (f : Int)) := by
  have hh : T.hi = T.lo + T.cs.length - 1 := rfl
  have hh2 : (T.flip f).hi = T.hi := by
    show T.lo + ((T.cs.set f (!T.cs.getD f false)).length : Int) - 1 = _
    rw [List.length_set]
    rfl
  rw [Tl.core (T := T.flip f) (by show T.lo ≤ _; omega) (by rw [hh2]; omega), Tl.core (by omega) (by omega)]
  show (T.cs.set f (!T.cs.getD f false)).getD (T.lo + (f : Int) - T.lo).toNat false ≠ T.cs.getD (T.lo + (f : Int) - T.lo).toNat false
  rw [show (T.lo + (f : Int) - T.lo).toNat = f by omega, List.getD_eq_getElem?_getD, List.getElem?_set, if_pos rfl, if_pos hf]
  show (!T.cs.getD f false) ≠ _
  cases T.cs.getD f false <;> decide
theorem lotEq_all {lo hi lo' hi' m m' : Int} {ins us ds ins' us' ds' : List Int} (h : lotEq lo hi ins m us ds lo' hi' ins' m' us' ds' = true) : lo = lo' ∧ hi = hi' ∧ ins = ins' ∧ m = m' ∧ us = us' ∧ ds = ds' := by
  unfold lotEq at h
  simpa using h
theorem lotEq_self {lo hi m : Int} {ins us ds : List Int} : lotEq lo hi ins m us ds lo hi ins m us ds = true := by
  unfold lotEq
  simp
/-! ### what draws leave -/
theorem HandC.np {H : Hp} {p c x : Addr} {o : HO} (h : HandC H p c) (e : H x = some o) (ho : ∀ a i r t, o ≠ .lst [.ref a, .int i, .int r, .int t]) : x ≠ p := by
  obtain ⟨cs, i, r, t, e1, _, _⟩ := h
  exact ne_of e e1 (ho _ _ _ _)
theorem TellAt.but {H H' : Hp} {p c t c' u d : Addr} {T : Tl} (hh : HandC H p c) (b : But p H H') (h : TellAt H t T c' u d) : TellAt H' t T c' u d :=
  ⟨b _ _ (hh.np h.t fun _ _ _ _ z => by cases z) h.t, ⟨b _ _ (hh.neb h.l.cs) h.l.cs, b _ _ (hh.neb h.l.us) h.l.us, b _ _ (hh.neb h.l.ds) h.l.ds⟩⟩
theorem LotAt.but {H H' : Hp} {p c C l : Addr} {lo hi : Int} {ins us ds : List Int} {m : Nat} (hh : HandC H p c) (b : But p H H') (h : LotAt C H l lo hi ins m us ds) : LotAt C H' l lo hi ins m us ds := by
  obtain ⟨dx, a1, a2, a3, h1, h2, h3, h4⟩ := h
  exact ⟨dx, a1, a2, a3, b _ _ (hh.np h1 fun _ _ _ _ z => by cases z) h1, b _ _ (hh.np h2 fun _ _ _ _ z => by cases z) h2, b _ _ (hh.np h3 fun _ _ _ _ z => by cases z) h3, b _ _ (hh.np h4 fun _ _ _ _ z => by cases z) h4⟩
theorem FormAt.but {H H' : Hp} {p c q : Addr} {lo hi : Int} {ins us ds : List Int} {m : Nat} (hh : HandC H p c) (b : But p H H') (h : FormAt H q lo hi ins m us ds) : FormAt H' q lo hi ins m us ds := by
  obtain ⟨a1, a2, a3, h1, h2, h3, h4⟩ := h
  exact ⟨a1, a2, a3, b _ _ (hh.np h1 fun _ _ _ _ z => by cases z) h1, b _ _ (hh.np h2 fun _ _ _ _ z => by cases z) h2, b _ _ (hh.np h3 fun _ _ _ _ z => by cases z) h3, b _ _ (hh.np h4 fun _ _ _ _ z => by cases z) h4⟩
end My
set_option linter.all false
namespace My
/-! ### a lot's data as a telling; moved, turned -/
def tlOf (lo : Int) (n : Nat) (xs : List Int) (m : Nat) (us ds : List Int) : Tl :=
  ⟨lo, (List.range n).map fun (k : Nat) => decide (lo + (k : Int) ∈ xs), (List.range m).map fun (k : Nat) => decide ((k : Int) ∈ us), (List.range m).map fun (k : Nat) => decide ((k : Int) ∈ ds)⟩
theorem getD_rng {f : Nat → Bool} {n k : Nat} (h : k < n) : ((List.range n).map f).getD k false = f k := by
  rw [List.getD_eq_getElem?_getD, List.getElem?_map, List.getElem?_range h]; rfl
theorem cyc_rng {f : Nat → Bool} {m : Nat} (hm : 0 < m) (x : Int) : cyc ((List.range m).map f) x = f (x % (m : Int)).toNat := by
  unfold cyc
  have k1 := Int.emod_lt_of_pos x (by omega : (0 : Int) < (m : Int))
  have k0 := Int.emod_nonneg x (by omega : (m : Int) ≠ 0)
  rw [List.length_map, List.length_range, getD_rng (by omega)]
section
variable {lo : Int} {n m : Nat} {xs us ds : List Int}
theorem tlOf_ok (hm : 0 < m) : (tlOf lo n xs m us ds).Ok := ⟨by show ((List.range m).map _).length = ((List.range m).map _).length; simp, by show 0 < ((List.range m).map _).length; simpa using hm⟩
theorem tlOf_m : (tlOf lo n xs m us ds).us.length = m := by show ((List.range m).map _).length = m; simp
theorem tlOf_c : (tlOf lo n xs m us ds).cs.length = n := by show ((List.range n).map _).length = n; simp
theorem tlOf_hi : (tlOf lo n xs m us ds).hi = lo + n - 1 := by
  show lo + (((List.range n).map _).length : Int) - 1 = _
  simp
theorem tlOf_U (hm : 0 < m) (x : Int) : (tlOf lo n xs m us ds).U x = decide (x % (m : Int) ∈ us) := by
  have k0 := Int.emod_nonneg x (by omega : (m : Int) ≠ 0)
  show cyc _ x = _
  refine (cyc_rng hm x).trans ?_
  rw [Int.toNat_of_nonneg k0]
theorem tlOf_D (hm : 0 < m) (x : Int) : (tlOf lo n xs m us ds).D x = decide (x % (m : Int) ∈ ds) := by
  have k0 := Int.emod_nonneg x (by omega : (m : Int) ≠ 0)
  show cyc _ x = _
  refine (cyc_rng hm x).trans ?_
  rw [Int.toNat_of_nonneg k0]
theorem tlOf_has (hm : 0 < m) (x : Int) : (tlOf lo n xs m us ds).has x = lotHas lo (lo + n - 1) xs m us ds x := by
  unfold Tl.has lotHas
  rw [tlOf_hi, tlOf_U hm, tlOf_D hm]
  show (if x < lo then _ else _) = _
  by_cases h1 : x < lo
  · rw [if_pos h1, if_neg (by omega), if_pos h1]
  · rw [if_neg h1]
    by_cases h2 : lo + (n : Int) - 1 < x
    · rw [if_pos h2, if_pos h2]
    · rw [if_neg h2, if_neg h2, if_neg h1]
      show ((List.range n).map _).getD (x - lo).toNat false = _
      rw [getD_rng (by omega), show lo + ((x - lo).toNat : Int) = x by omega]
theorem tlOf_told (hx : ∀ x ∈ xs, lo ≤ x ∧ x ≤ lo + n - 1) (hu : ∀ x ∈ us, 0 ≤ x ∧ x < m) (hd : ∀ x ∈ ds, 0 ≤ x ∧ x < m) : Told (tlOf lo n xs m us ds) xs us ds := by
  refine ⟨fun x h => ?_, fun k h => ?_, fun x h => ?_, fun k h => ?_, fun x h => ?_, fun k h => ?_⟩
  · rw [tlOf_hi]; exact hx x h
  · rw [tlOf_c] at h
    exact getD_rng h
  · rw [tlOf_m]
    have := hu x h
    omega
  · rw [tlOf_m] at h
    refine (getD_rng h).trans ?_
    rw [Int.zero_add]
  · rw [tlOf_m]
    have := hd x h
    omega
  · rw [tlOf_m] at h
    refine (getD_rng h).trans ?_
    rw [Int.zero_add]
end
theorem dec_cong {p q : Prop} [Decidable p] [Decidable q] (h : p ↔ q) : decide p = decide q := by
  by_cases hq : q
  · rw [decide_eq_true (h.mpr hq), decide_eq_true hq]
  · rw [decide_eq_false (fun z => hq (h.mp z)), decide_eq_false hq]
/-- rests moved on -/
theorem mem_shift {us : List Int} {m : Nat} (hu : ∀ r ∈ us, 0 ≤ r ∧ r < m) (b x : Int) : x % (m : Int) ∈ us.map (fun r => (r + b) % (m : Int)) ↔ (x - b) % (m : Int) ∈ us := by
  rw [List.mem_map]
  constructor
  · rintro ⟨r, hr, e⟩
    have e2 : r % (m : Int) = (x - b) % (m : Int) := Int.emod_eq_emod_iff_emod_sub_eq_zero.mpr (by
      have := Int.emod_eq_emod_iff_emod_sub_eq_zero.mp e
      rw [show r - (x - b) = r + b - x by omega]; exact this)
    rw [← e2, Int.emod_eq_of_lt (hu r hr).1 (hu r hr).2]
    exact hr
  · intro h
    refine ⟨_, h, ?_⟩
    rw [Int.emod_add_emod, show x - b + b = x by omega]
/-- rests turned -/
theorem mem_turn {us : List Int} {m : Nat} (hu : ∀ r ∈ us, 0 ≤ r ∧ r < m) (x : Int) : x % (m : Int) ∈ us.map (fun r => (-r) % (m : Int)) ↔ (-x) % (m : Int) ∈ us := by
  rw [List.mem_map]
  constructor
  · rintro ⟨r, hr, e⟩
    have e2 : r % (m : Int) = (-x) % (m : Int) := Int.emod_eq_emod_iff_emod_sub_eq_zero.mpr (by
      have := Int.emod_eq_emod_iff_emod_sub_eq_zero.mp e.symm
      rw [show r - -x = x - -r by omega]; exact this)
    rw [← e2, Int.emod_eq_of_lt (hu r hr).1 (hu r hr).2]
    exact hr
  · intro h
    refine ⟨_, h, ?_⟩
    refine Int.emod_eq_emod_iff_emod_sub_eq_zero.mpr ?_
    have := Int.emod_add_mul_ediv (-x) (m : Int)
    rw [show -((-x) % (m : Int)) - x = (m : Int) * ((-x) / (m : Int)) by omega]
    exact Int.mul_emod_right _ _
section
variable {lo hi : Int} {m : Nat} {xs us ds : List Int}
theorem lot_moved (hu : ∀ r ∈ us, 0 ≤ r ∧ r < m) (hd : ∀ r ∈ ds, 0 ≤ r ∧ r < m) (b x : Int) :
    lotHas (lo + b) (hi + b) (xs.map (· + b)) m (us.map fun r => (r + b) % (m : Int)) (ds.map fun r => (r + b) % (m : Int)) x = lotHas lo hi xs m us ds (x - b) := by
  unfold lotHas
  rw [dec_cong (mem_shift hu b x), dec_cong (mem_shift hd b x)]
  by_cases h1 : hi + b < x
  · rw [if_pos h1, if_pos (by omega)]
  · rw [if_neg h1, if_neg (by omega : ¬ hi < x - b)]
    by_cases h2 : x < lo + b
    · rw [if_pos h2, if_pos (by omega)]
    · rw [if_neg h2, if_neg (by omega : ¬ x - b < lo)]
      refine dec_cong ⟨fun h => ?_, fun h => List.mem_map.mpr ⟨_, h, by omega⟩⟩
      obtain ⟨y, hy, e⟩ := List.mem_map.mp h
      rw [show x - b = y by omega]
      exact hy
theorem lot_turned (hs : lo ≤ hi + 1) (hu : ∀ r ∈ us, 0 ≤ r ∧ r < m) (hd : ∀ r ∈ ds, 0 ≤ r ∧ r < m) (x : Int) :
    lotHas (-hi) (-lo) (xs.map (-·)) m (ds.map fun r => (-r) % (m : Int)) (us.map fun r => (-r) % (m : Int)) x = lotHas lo hi xs m us ds (-x) := by
  unfold lotHas
  rw [dec_cong (mem_turn hu x), dec_cong (mem_turn hd x)]
  by_cases h1 : -lo < x
  · rw [if_pos h1, if_neg (by omega : ¬ hi < -x), if_pos (by omega)]
  · rw [if_neg h1]
    by_cases h2 : x < -hi
    · rw [if_pos h2, if_pos (by omega)]
    · rw [if_neg h2, if_neg (by omega : ¬ hi < -x), if_neg (by omega : ¬ -x < lo)]
      refine dec_cong ⟨fun h => ?_, fun h => List.mem_map.mpr ⟨_, h, by omega⟩⟩
      obtain ⟨y, hy, e⟩ := List.mem_map.mp h
      rw [show -x = y by omega]
      exact hy
end
/-- the law's own telling, moved -/
def Tl.mv (T : Tl) (b : Int) : Tl := ⟨T.lo + b, T.cs, (List.range T.us.length).map fun (k : Nat) => T.U ((k : Int) - b), (List.range T.us.length).map fun (k : Nat) => T.D ((k : Int) - b)⟩
def Tl.tn (T : Tl) : Tl := ⟨-T.hi, (List.range T.cs.length).map fun (k : Nat) => T.cs.getD (T.cs.length - 1 - k) false, (List.range T.us.length).map fun (k : Nat) => T.D (-(k : Int)), (List.range T.us.length).map fun (k : Nat) => T.U (-(k : Int))⟩
theorem per_mod {f : Int → Bool} {m : Nat} (hp : Per f m) (hm : 0 < m) (g : Int → Int) (x : Int) (hg : (g (x % (m : Int))) % (m : Int) = g x % (m : Int)) : f (g ((x % (m : Int)).toNat : Int)) = f (g x) := by
  rw [Int.toNat_of_nonneg (Int.emod_nonneg x (by omega : (m : Int) ≠ 0))]
  exact hp.cong hg
theorem mv_U {T : Tl} (ok : T.Ok) (b x : Int) : (T.mv b).U x = T.U (x - b) := by
  refine (cyc_rng ok.pos x).trans (per_mod ok.pu ok.pos (· - b) x ?_)
  show (x % (T.us.length : Int) - b) % (T.us.length : Int) = (x - b) % (T.us.length : Int)
  rw [Int.sub_emod, Int.emod_emod, ← Int.sub_emod]
theorem mv_D {T : Tl} (ok : T.Ok) (b x : Int) : (T.mv b).D x = T.D (x - b) := by
  refine (cyc_rng ok.pos x).trans (per_mod ok.pd ok.pos (· - b) x ?_)
  show (x % (T.us.length : Int) - b) % (T.us.length : Int) = (x - b) % (T.us.length : Int)
  rw [Int.sub_emod, Int.emod_emod, ← Int.sub_emod]
theorem neg_mod (x : Int) (m : Nat) : (-(x % (m : Int))) % (m : Int) = (-x) % (m : Int) := by
  rw [← Int.zero_sub, Int.sub_emod, Int.emod_emod, ← Int.sub_emod, Int.zero_sub]
theorem tn_U {T : Tl} (ok : T.Ok) (x : Int) : T.tn.U x = T.D (-x) := (cyc_rng ok.pos x).trans (per_mod ok.pd ok.pos (-·) x (neg_mod x _))
theorem tn_D {T : Tl} (ok : T.Ok) (x : Int) : T.tn.D x = T.U (-x) := (cyc_rng ok.pos x).trans (per_mod ok.pu ok.pos (-·) x (neg_mod x _))
theorem mv_has {T : Tl} (ok : T.Ok) (b x : Int) : (T.mv b).has x = T.has (x - b) := by
  unfold Tl.has
  rw [mv_U ok, mv_D ok]
  show (if x < T.lo + b then _ else if T.lo + b + T.cs.length - 1 < x then _ else T.cs.getD (x - (T.lo + b)).toNat false) = if x - b < T.lo then _ else if T.lo + T.cs.length - 1 < x - b then _ else _
  by_cases h1 : x < T.lo + b
  · rw [if_pos h1, if_pos (by omega)]
  · rw [if_neg h1, if_neg (by omega : ¬ x - b < T.lo)]
    by_cases h2 : T.lo + b + T.cs.length - 1 < x
    · rw [if_pos h2, if_pos (by omega)]
    · rw [if_neg h2, if_neg (by omega : ¬ T.lo + T.cs.length - 1 < x - b), show x - (T.lo + b) = x - b - T.lo by omega]
theorem tn_has {T : Tl} (ok : T.Ok) (x : Int) : T.tn.has x = T.has (-x) := by
  unfold Tl.has
  rw [tn_U ok, tn_D ok]
  have e1 : T.tn.cs.length = T.cs.length := by show ((List.range T.cs.length).map _).length = _; simp
  have e2 : T.tn.hi = -T.lo := by
    show -T.hi + (T.tn.cs.length : Int) - 1 = _
    rw [e1]
    show -(T.lo + T.cs.length - 1) + (T.cs.length : Int) - 1 = _
    omega
  rw [e2]
  have e3 : T.hi = T.lo + T.cs.length - 1 := rfl
  show (if x < -T.hi then _ else if -T.lo < x then _ else T.tn.cs.getD (x - -T.hi).toNat false) = _
  by_cases h1 : x < -T.hi
  · rw [if_pos h1, if_neg (by omega : ¬ -x < T.lo), if_pos (by omega)]
  · rw [if_neg h1]
    by_cases h2 : -T.lo < x
    · rw [if_pos h2, if_pos (by omega)]
    · rw [if_neg h2, if_neg (by omega : ¬ -x < T.lo), if_neg (by omega : ¬ T.hi < -x)]
      refine (getD_rng (by omega)).trans ?_
      rw [show T.cs.length - 1 - (x - -T.hi).toNat = (-x - T.lo).toNat by omega]
end My
set_option Elab.async false
set_option linter.all false
set_option maxRecDepth 100000
set_option maxHeartbeats 8000000
namespace My
open PySem PySem.Spec PyProof.Rows L2
local macro_rules | `(tactic| walk_at "lv") => `(tactic| first | exact Or.inl rfl | exact Or.inr rfl)
/-! ### y = {k: v for ..} -/
section
variable {X : L2.Cx}
theorem sw_dict {kx vx : Expr} {gs : List Comprehension} {sc : Scope} {pos py : Pos} {y : Str} {l : Nat} {env : Env} (h1 : env.scope.kind = .function) (h2 : env.scope.names.lookup y = some .local) (h3 : (py.line == pos.line) = true)
    (h4 : (sc.names.any fun (n, k) => n == y && (k == .local || k == .cell)) = false) : swapsWith (.DictComp kx vx gs sc pos) (some (.Name y py)) l env = pure true := by
  have b1 : env.kindOf y = some .local := h2
  have b2 : env.blockKind = .function := by unfold Env.blockKind; rw [h1]; rfl
  unfold swapsWith
  simp only [b1, b2, h4, Expr.pos, h3]
  rfl
abbrev Blk (X : L2.Cx) (sc : Scope) (p : L2.Cx → Prop) : Prop := ∀ (s : Shared) (H : Hp) (C : Addr) (cl : List (Str × Addr)) (fp : List Addr), p (X.blk s H sc (compEnvC sc cl C X.env) fp)
theorem ps_setDc {i : Nat} {y : Str} {py : Pos} {kx vx tg iter : Expr} {ifs : List Expr} {sc : Scope} {own : List (Str × Nat)} {pos spos : Pos} {wi : TI} {g : TG} {tt : TT} {tk tv : TE} (c1 : X.calm = true) (c2 : X.N.Nodup) (c3 : X.N[i]? = some y) (c4 : X.env.scope.names.lookup y = some .local)
    (sw : swapsWith (.DictComp kx vx [⟨tg, iter, ifs, 0⟩] sc pos) (some (.Name y py)) spos.line X.env = pure true) (c5 : PI X tg iter wi) (c6 : BlkOk X.N X.env.scope sc own)
    (d1 : Blk X sc fun Y => PG Y tg g) (d2 : Blk X sc fun Y => PTs Y ifs tt) (d3 : Blk X sc fun Y => PE Y kx tk) (d4 : Blk X sc fun Y => PE Y vx tv) (c7 : ∀ x, foldedSetIterable iter X.env x = pure x := by intro _; rfl) :
    PS X (.Assign [.Name y py] (.DictComp kx vx [⟨tg, iter, ifs, 0⟩] sc pos) spos) (tAsg (tDc wi g tt tk tv (own.map (·.2))) (gName i)) := by
  refine ⟨fun pns s σ H D I h => ?_⟩
  rw [exec_Assign_Name_used _ _ _ _ sw]; refine wpAny_bind (wpAny_standAt (wpAny_bind ?_))
  show wpAny _ X.A (do let _ ← comprehension (.DictComp kx vx [⟨tg, iter, ifs, 0⟩] sc pos) sc X.env (firstIterPos [⟨tg, iter, ifs, 0⟩] pos) newDict false (eval iter X.env) (some (assign (.Name y py) X.env))) _ _ s
  have h' : tDc wi g tt tk tv (own.map (·.2)) σ H (fun x H1 => gName i x σ H1 D.nx) := h
  refine wpAny_bind (thn (dc_core (Qf := fun _ s' => SP X pns D .next s') c1 c2 I c5 c6 d1 d2 d3 d4 c7 h' fun L C s' m H' I' q hn f => ?_) fun _ s' hq => wpAny_pure (wpAny_pure hq))
  show wpAny _ _ (assign (.Name y py) X.env (.ref L)) _ _ _; refine wpAny_assign_Name (store_ok2 (v := V.ref L) I' c2 c3 (.inl c4) rfl (fun s2 I2 ⟨a, sb, ha⟩ => ?_) (.inr c4))
  have ⟨f0, f1, f2, f3, f4, f5⟩ := f
  have na : C ≠ a := ha.elim (fun z => by rw [z]; exact f1) fun z e => f4 y a z e.symm
  exact ⟨m, hn.sameBut sb na, fun h3 sb3 => ⟨_, H', I2.turned (t' := s2.toks) (fun b o nb e => (sb3.2 b nb).trans e) f0 f1 f3 f4 f5, q⟩⟩
end
end My
set_option Elab.async false
set_option linter.all false
set_option maxRecDepth 100000
set_option maxHeartbeats 8000000
namespace My
open PySem PySem.Spec PyProof.Rows L2
local macro_rules | `(tactic| walk_at "lv") => `(tactic| first | exact Or.inl rfl | exact Or.inr rfl)
theorem passE {P : Program} {w : World} {X : L2.Cx} : Passes (CX P w) X E0 := fun _ _ _ _ _ _ _ c => by
  obtain ⟨_, _, _, _, _, _, _, _, _, _, _, _, z⟩ := c
  exact z.elim
section
variable {P : Program} {w : World} {K : PySem.W.Frag} {mg : Str → Option Value} {base : Heap}
/-! ### _law_lot_of -/
def spLo (K : PySem.W.Frag) : Sp := fun vs H Q _ => ∃ (t c u d : Addr) (T : Tl) (lo hi : Int) (m : Nat), vs = [.ref t] ∧ TellAt H t T c u d ∧ T.Near ∧ (T.cs.length < 60000 ∧ T.us.length ≤ 10080) ∧ -20000 ≤ T.lo ∧ T.hi ≤ 20000 ∧ IsForm T.has T.U T.D lo hi m ∧ -20000 ≤ lo ∧ hi ≤ 20000 ∧
  ∀ p H', Same H H' → LotAt (He.ga K "Lot") H' p lo hi (insOf T lo hi) m (resOf T.U m) (resOf T.D m) → Q (.ref p) H'
abbrev s_lo : Stmt := top 49
abbrev N_lo : List Str := ["_law_telling", "_law_low", "_law_high", "_law_inside", "_law_modulus", "_law_ups", "_law_downs"]
theorem sc_lo : FnScope N_lo ["_law_telling"] (defScope s_lo) := ⟨rfl, rfl, rfl, by decide +kernel, rfl, by decide +kernel, by decide +kernel⟩
theorem kp_lo (F : At K mg "_law_lot_of" s_lo) (Gp : Keeps CX0 P w K mg base "_law_parts" 1 ["_law_telling"] spParts) (Gm : Keeps (CX P w) P w K mg base "make_lot" 4 ["low", "high", "inside", "modulus", "ups", "downs"] (spMake K)) :
    Keeps CX0 P w K mg base "_law_lot_of" 5 ["_law_telling"] (spLo K) := by
  refine keeps_of F sc_lo (fun _ _ _ _ _ _ us hl => match us, hl with | [_], _ => rfl) (fun vs H Q E h => ?_) (fun f cdv A outer s H vs Q E hr h => ?_)
  · obtain ⟨t, c, u, d, T, lo, hi, m, rfl, _⟩ := h
    rfl
  · obtain ⟨t, c, u, d, T, lo, hi, m, rfl, a, near, ⟨hc9, h10⟩, b1, b2, fm, c1, c2, k⟩ := h
    refine ⟨_, (pss_cons (ps_asg (pe_k Gp (hr.mono (by decide)) (by rfl) pass0 (pa_cons (pv 0) pa_nil)) (pg_tup (by rfl) (pgs_cons (pg_name (i := 1) sc_lo.nd rfl (by walk_at "lv")) (pgs_cons (pg_name (i := 2) sc_lo.nd rfl (by walk_at "lv")) (pgs_cons (pg_name (i := 3) sc_lo.nd rfl (by walk_at "lv")) (pgs_cons (pg_name (i := 4) sc_lo.nd rfl (by walk_at "lv")) (pgs_cons (pg_name (i := 5) sc_lo.nd rfl (by walk_at "lv")) (pgs_cons (pg_name (i := 6) sc_lo.nd rfl (by walk_at "lv")) pgs_nil))))))))
        (pss_one (ps_ret (pe_k Gm hr (by rfl) (passE (P := P) (w := w)) (pa_cons (pv 1) (pa_cons (pv 2) (pa_cons (pv 3) (pa_cons (pv 4) (pa_cons (pv 5) (pa_cons (pv 6) pa_nil)))))))))), ?_⟩
    have lens := parts_lens (T := T)
    refine ⟨_, rfl, t, c, u, d, T, rfl, a, near.ok, near.m, near.c, fun q a1 a2 a3 H1 s1 pa _ _ _ => ?_⟩
    refine ⟨q, _, rfl, SqT.of pa.q, rfl, _, _, rfl, _, _, rfl, _, _, rfl, _, _, rfl, _, _, rfl, _, _, rfl, rfl, ?_⟩
    refine ⟨_, rfl, _, rfl, _, rfl, _, rfl, _, rfl, _, rfl, T, a1, a2, a3, cIns T, res T.us, res T.ds, rfl, near, ⟨hc9, h10⟩, b1, b2, told_parts near.ok (List.Perm.refl _) (List.Perm.refl _) (List.Perm.refl _), ⟨cIns_nodup T, fil_nodup _ _ _, fil_nodup _ _ _⟩, ⟨Nat.le_trans lens.1 near.c, Nat.le_trans lens.2.1 near.m, ?_⟩, .inl pa.a, .inl pa.b, .inl pa.c, ?_, ?_⟩
    · refine Nat.le_trans lens.2.2 ?_
      rw [near.ok.len]
      exact near.m
    · intro p lo' hi' m' H2 fm' _ _ s2 l
      obtain ⟨rfl, rfl, rfl⟩ := fm.unique fm'
      exact k p H2 (s1.trans s2) l
    · intro lo' hi' m' dd H2 fm' out _ _
      obtain ⟨rfl, rfl, rfl⟩ := fm.unique fm'
      omega
end
end My
set_option Elab.async false
set_option linter.all false
set_option maxRecDepth 100000
set_option maxHeartbeats 8000000
/-! ### list(zip(xs, ys)), x in a tuple of data, math.lcm -/
namespace Zl
open PySem PySem.Calls PyProof.Rows PySem.Spec PySem.W
/-- a zip over two lists, i turns gone, a list S being filled beside it -/
structure St (h : Heap) (zp TI TO i1 i2 l1 l2 S : Addr) (xs ys : Array Value) (i : Nat) : Prop where
  p : IsPair h TI (.ref i1) (.ref i2)
  a : h.IsListIter i1 l1 i
  b : h.IsListIter i2 l2 i
  x : h.IsList l1 xs
  y : h.IsList l2 ys
  zp : (IsZip h zp TI TO .none ∧ ∃ u v, IsPair h TO u v) ∨ ∃ T f oT, IsZipHeld h zp TI TO T f ∧ h.get? T = some oT ∧ T ≠ zp ∧ T ≠ i1 ∧ T ≠ i2 ∧ T ≠ S
structure Lo (zp TI TO i1 i2 l1 l2 S : Addr) : Prop where
  zp : zp < S
  TI : TI < S
  TO : TO < S
  a : i1 < S
  b : i2 < S
  x : l1 < S
  y : l2 < S
theorem St.keep {h h' : Heap} {zp TI TO i1 i2 l1 l2 S : Addr} {xs ys : Array Value} {i : Nat} (L : Lo zp TI TO i1 i2 l1 l2 S) (st : St h zp TI TO i1 i2 l1 l2 S xs ys i) (hk : ∀ b o, b ≠ S → h.get? b = some o → h'.get? b = some o) : St h' zp TI TO i1 i2 l1 l2 S xs ys i := by
  have n : ∀ {c : Addr}, c < S → c ≠ S := fun q => Nat.ne_of_lt q
  refine ⟨hk _ _ (n L.TI) st.p, st.a.at fun o e => hk _ o (n L.a) e, st.b.at fun o e => hk _ o (n L.b) e, st.x.at fun o e => hk _ o (n L.x) e, st.y.at fun o e => hk _ o (n L.y) e, ?_⟩
  rcases st.zp with ⟨h1, u, v, h2⟩ | ⟨T, f, oT, h1, h2, r1, r2, r3, r4⟩
  · exact .inl ⟨hk _ _ (n L.zp) h1, u, v, hk _ _ (n L.TO) h2⟩
  · exact .inr ⟨T, f, oT, hk _ _ (n L.zp) h1, hk _ _ r4 h2, r1, r2, r3, r4⟩
section
variable {pg : Program} {wd : World} {Ar : Around} {E : Value → Shared → Prop} {s : Shared} {zp TI TO i1 i2 l1 l2 S : Addr} {xs ys : Array Value} {i : Nat}
theorem item {Q : Option Value → Shared → Prop} (D : ZipApart zp TI TO i1 i2 l1 l2) (st : St s.heap zp TI TO i1 i2 l1 l2 S xs ys i) (mS : S < s.heap.objs.size) {u v : Value} (eu : xs[i]? = some u) (ev : ys[i]? = some v)
    (kQ : ∀ h', St h' zp TI TO i1 i2 l1 l2 S xs ys (i + 1) → IsPair h' s.heap.objs.size u v → h'.objs.size = s.heap.objs.size + 1 → (∀ c o, c ≠ zp → c ≠ TO → c ≠ i1 → c ≠ i2 → s.heap.get? c = some o → h'.get? c = some o) → Q (some (.ref s.heap.objs.size)) { s with heap := h' }) :
    wpAny (model pg wd) Ar (pyNext (.ref zp)) Q E s := by
  obtain ⟨mTI, h1, h2, hl1, hl2, mz⟩ := st
  have below : ∀ {c o}, s.heap.get? c = some o → s.heap.objs.size ≠ c := fun e => Nat.ne_of_gt (Heap.lt_size e)
  have n1 : s.heap.objs.size ≠ i1 := let ⟨_, e, _⟩ := h1; below e
  have n2 : s.heap.objs.size ≠ i2 := let ⟨_, e, _⟩ := h2; below e
  rcases mz with ⟨mz, a, b, mTO⟩ | ⟨T, f, oT, mz, mT, r1, r2, r3, r4⟩
  · refine wpAny_pyNext_zip_item D mz mTI mTO h1 h2 hl1 hl2 eu ev fun h' b1 b2 b3 b4 b5 b6 hk => kQ h' ⟨hk _ _ D.TIz D.TITO D.TIi1 D.TIi2 mTI, b3, b4, hl1.at fun o e => hk _ o D.l1z D.l1TO D.l1i1 D.l1i2 e, hl2.at fun o e => hk _ o D.l2z D.l2TO D.l2i1 D.l2i2 e, .inr ⟨s.heap.objs.size, false, _, b1, b5, below mz, n1, n2, Nat.ne_of_gt mS⟩⟩ b5 b6 hk
  · refine wpAny_pyNext_zip_item_held D mz mT mTI h1 h2 hl1 hl2 eu ev fun h' b1 b3 b4 b5 b6 hk => kQ h' ⟨hk _ _ D.TIz D.TIi1 D.TIi2 mTI, b3, b4, hl1.at fun o e => hk _ o D.l1z D.l1i1 D.l1i2 e, hl2.at fun o e => hk _ o D.l2z D.l2i1 D.l2i2 e, .inr ⟨T, true, oT, b1, hk _ _ r1 r2 r3 mT, r1, r2, r3, r4⟩⟩ b5 b6 fun c o c1 _ c3 c4 e => hk c o c1 c3 c4 e
theorem done {Q : Option Value → Shared → Prop} (nh : Ar.handled = none) (D : ZipApart zp TI TO i1 i2 l1 l2) (st : St s.heap zp TI TO i1 i2 l1 l2 S xs ys i) (he : xs[i]? = none ∨ ys[i]? = none)
    (kQ : ∀ h', (∀ c o, c ≠ zp → c ≠ TO → c ≠ i1 → c ≠ i2 → s.heap.get? c = some o → h'.get? c = some o) → Q none { s with heap := h' }) : wpAny (model pg wd) Ar (pyNext (.ref zp)) Q E s := by
  obtain ⟨mTI, h1, h2, hl1, hl2, mz⟩ := st
  rcases mz with ⟨mz, a, b, mTO⟩ | ⟨T, f, oT, mz, mT, r1, r2, r3, r4⟩
  · exact wpAny_pyNext_zip_end nh D mz mTI mTO h1 h2 hl1 hl2 he fun h' hk => kQ h' hk
  · exact wpAny_pyNext_zip_end_held nh D mz mT mTI h1 h2 hl1 hl2 he fun h' hk => kQ h' fun c o c1 _ c3 c4 e => hk c o c1 c3 c4 e
/-- the tuples made so far -/
structure G (xs ys : Array Value) (lo : Addr) (h : Heap) (as : List Addr) : Prop where
  rise : as.Pairwise (· < ·)
  above : ∀ a ∈ as, lo < a
  pairs : ∀ (j : Nat) (a : Addr), as[j]? = some a → ∃ u v, xs[j]? = some u ∧ ys[j]? = some v ∧ IsPair h a u v
theorem loop {R : Result → Shared → Prop} (nh : Ar.handled = none) (D : ZipApart zp TI TO i1 i2 l1 l2) (L : Lo zp TI TO i1 i2 l1 l2 S) {n : Nat} (hx : xs.size = n) (hy : ys.size = n) (hn : n ≤ sizeLine) (res : Value) {h₁ : Heap}
    (kR : ∀ h' tk got c as, (∀ b o, b ≠ S → b ≠ zp → b ≠ TO → b ≠ i1 → b ≠ i2 → h₁.get? b = some o → h'.get? b = some o) → h'.get? S = some { cls := .type "list", dict := none, data := .seq got c, slots := #[] } → as.length = n → G xs ys S h' as →
      got.toList = as.map Value.ref → R (.ok (.ret res)) { s with heap := h', toks := tk }) :
    ∀ (k i : Nat) (h : Heap) (tk c : Nat) (got : Array Value) (as : List Addr), n - i = k → i ≤ n → St h zp TI TO i1 i2 l1 l2 S xs ys i → (∀ b o, b ≠ S → b ≠ zp → b ≠ TO → b ≠ i1 → b ≠ i2 → h₁.get? b = some o → h.get? b = some o) →
      h.get? S = some { cls := .type "list", dict := none, data := .seq got c, slots := #[] } → got.toList = as.map Value.ref → as.length = i → G xs ys S h as →
      codeAny (model pg wd) Ar (.builtin "list.extend.loop" ⟨[.ref S, .ref zp, res], []⟩) R { s with heap := h, toks := tk } := by
  have gz : ∀ {a : Addr}, S < a → a ≠ zp ∧ a ≠ TO ∧ a ≠ i1 ∧ a ≠ i2 := fun q => ⟨Nat.ne_of_gt (Nat.lt_trans L.zp q), Nat.ne_of_gt (Nat.lt_trans L.TO q), Nat.ne_of_gt (Nat.lt_trans L.a q), Nat.ne_of_gt (Nat.lt_trans L.b q)⟩
  have gs : S ≠ zp ∧ S ≠ TO ∧ S ≠ i1 ∧ S ≠ i2 := ⟨Nat.ne_of_gt L.zp, Nat.ne_of_gt L.TO, Nat.ne_of_gt L.a, Nat.ne_of_gt L.b⟩
  intro k
  induction k with
  | zero =>
    intro i h tk c got as hk hi st hkeep mS macc mal mG
    have hin : i = n := by omega
    refine codeAny_builtin PySem.F.entry_extend_loop ?_; rw [Around.under_plainId PySem.F.plain_extend_loop _]
    show wpAny _ Ar.in1 (pyNext (.ref zp) >>= _) _ _ _
    refine wpAny_bind (done (s := { s with heap := h, toks := tk }) (Ar := Ar.in1) (S := S) (i := i) nh D st (.inl (Array.getElem?_eq_none (by omega))) fun h' he => ?_)
    refine wpAny_pure (kR h' tk got c as (fun b o q1 q2 q3 q4 q5 e => he b o q2 q3 q4 q5 (hkeep b o q1 q2 q3 q4 q5 e)) (he S _ gs.1 gs.2.1 gs.2.2.1 gs.2.2.2 mS) (by omega) ⟨mG.rise, mG.above, fun j a ej => ?_⟩ macc)
    obtain ⟨u, v, e1, e2, e3⟩ := mG.pairs j a ej
    have g := gz (mG.above a (List.mem_of_getElem? ej))
    exact ⟨u, v, e1, e2, he a _ g.1 g.2.1 g.2.2.1 g.2.2.2 e3⟩
  | succ k ih =>
    intro i h tk c got as hk hi st hkeep mS macc mal mG
    have hlt : i < n := by omega
    have eu := Array.getElem?_eq_getElem (xs := xs) (i := i) (by omega)
    have ev := Array.getElem?_eq_getElem (xs := ys) (i := i) (by omega)
    have msz : got.size = i := by rw [← Array.length_toList, macc, List.length_map, mal]
    refine codeAny_builtin PySem.F.entry_extend_loop ?_; rw [Around.under_plainId PySem.F.plain_extend_loop _]
    show wpAny _ Ar.in1 (pyNext (.ref zp) >>= _) _ _ _
    refine wpAny_bind (item (s := { s with heap := h, toks := tk }) (S := S) D st (Heap.lt_size mS) eu ev fun h' st' ht hz' hkp => ?_)
    dsimp only at ht hz' hkp ⊢
    have hS' := hkp S _ gs.1 gs.2.1 gs.2.2.1 gs.2.2.2 mS
    have lift : ∀ b o, b ≠ S → h'.get? b = some o → (h'.update S (Obj.mapSeq (·.push (Value.ref h.objs.size)))).get? b = some o := fun b o qb e => (Heap.get?_update_other _ _ (Ne.symm qb)).trans e
    have mSl : S < h.objs.size := Heap.lt_size mS
    show wpAny _ Ar.in1 (updateSeq S (·.push (Value.ref h.objs.size)) >>= _) _ _ _
    refine wpAny_bind ?_
    refine wpAny_updateSeq hS' rfl (wpAny_pure ⟨plainId_quiet PySem.F.plain_extend_loop _, ih (i + 1) _ tk _ (got.push (Value.ref h.objs.size)) (as ++ [h.objs.size]) (by omega) hlt (st'.keep L lift)
      (fun b o q1 q2 q3 q4 q5 e => lift b o q1 (hkp b o q2 q3 q4 q5 (hkeep b o q1 q2 q3 q4 q5 e))) (Heap.get?_update_self _ hS' rfl) (by rw [Array.toList_push, macc, List.map_append]; rfl) (by rw [List.length_append, mal]; rfl) ⟨?_, ?_, ?_⟩⟩) (by rw [msz]; omega) (by show (got.push (Value.ref h.objs.size)).size ≤ sizeLine + 1; rw [Array.size_push, msz]; omega)
    · refine List.pairwise_append.mpr ⟨mG.rise, List.pairwise_singleton _ _, fun a qa b qb => ?_⟩
      rw [List.mem_singleton.mp qb]
      obtain ⟨j, ej⟩ := List.mem_iff_getElem?.mp qa
      obtain ⟨_, _, _, _, e⟩ := mG.pairs j a ej
      exact Heap.lt_size e
    · intro a qa
      rcases List.mem_append.mp qa with qa | qa
      · exact mG.above a qa
      · exact List.mem_singleton.mp qa ▸ mSl
    · intro j b ej
      rcases Nat.lt_trichotomy j as.length with q | q | q
      · rw [List.getElem?_append_left q] at ej
        obtain ⟨u, v, e1, e2, e3⟩ := mG.pairs j b ej
        have qb := mG.above b (List.mem_of_getElem? ej)
        have g := gz qb
        exact ⟨u, v, e1, e2, lift b _ (Nat.ne_of_gt qb) (hkp b _ g.1 g.2.1 g.2.2.1 g.2.2.2 e3)⟩
      · subst q
        have qb : h.objs.size = b := by simpa using ej
        subst qb
        exact ⟨_, _, by rw [mal]; exact eu, by rw [mal]; exact ev, lift _ _ (Nat.ne_of_gt mSl) ht⟩
      · have enone : (as ++ [h.objs.size])[j]? = none := List.getElem?_eq_none (by rw [List.length_append, List.length_singleton]; omega)
        rw [enone] at ej; cases ej
end
theorem nolen : typeLookup (.type "zip") "__len__" = pure none := by rw [typeLookup_type, builtinLookup_eq_fast]; kernel_rfl
theorem nohint : typeLookup (.type "zip") "__length_hint__" = pure none := by rw [typeLookup_type, builtinLookup_eq_fast]; kernel_rfl
section
variable {pg : Program} {wd : World} {Ar : Around} {E : Value → Shared → Prop} {s : Shared} {zp TI TO i1 i2 l1 l2 S : Addr} {xs ys : Array Value}
theorem St.isz {h : Heap} {i : Nat} (st : St h zp TI TO i1 i2 l1 l2 S xs ys i) : ∃ o, h.get? zp = some o ∧ o.cls = .type "zip" := by
  rcases st.zp with ⟨h1, _⟩ | ⟨_, _, _, h1, _⟩
  · exact ⟨_, h1, rfl⟩
  · exact ⟨_, h1, rfl⟩
theorem hint (mT : s.TypeIs (.ref zp) "zip") {Q : Bool → Shared → Prop} (h : Q true s) : wpAny (model pg wd) Ar (Builtin.List.listLengthHint (.ref zp)) Q E s := by
  unfold Builtin.List.listLengthHint; refine wpAny_bind (wpAny_specialOf mT nolen ?_)
  show wpAny _ Ar (specialOf (Value.ref zp) (Str.ofString "__length_hint__") >>= _) _ _ _
  exact wpAny_bind (wpAny_specialOf mT nohint (wpAny_pure h))
theorem extend {R : Result → Shared → Prop} (nh : Ar.handled = none) (D : ZipApart zp TI TO i1 i2 l1 l2) (L : Lo zp TI TO i1 i2 l1 l2 S) {n : Nat} (hx : xs.size = n) (hy : ys.size = n) (hn : n ≤ sizeLine) (mz : IsZip s.heap zp TI TO .none) (st : St s.heap zp TI TO i1 i2 l1 l2 S xs ys 0) (res : Value) (c₀ : Nat)
    (mS : s.heap.get? S = some { cls := .type "list", data := .seq #[] c₀ })
    (kR : ∀ h' tk got c as, (∀ b o, b ≠ S → b ≠ zp → b ≠ TO → b ≠ i1 → b ≠ i2 → s.heap.get? b = some o → h'.get? b = some o) → h'.get? S = some { cls := .type "list", dict := none, data := .seq got c, slots := #[] } → as.length = n → G xs ys S h' as →
      got.toList = as.map Value.ref → R (.ok (.ret res)) { s with heap := h', toks := tk }) :
    wpAny (model pg wd) Ar.in1 (Builtin.List.listExtendWith (.ref S) (.ref zp) res)
      (fun fin s' => match fin with | .done f => R (.ok f) s' | .again c' => c'.quiet = true ∧ codeAny (model pg wd) Ar c' R s') (fun e s' => R (.error e) s') s := by
  have mT : s.TypeIs (.ref zp) "zip" := ⟨_, mz, rfl⟩
  unfold Builtin.List.listExtendWith; refine wpAny_bind (wpAny_typeOf (T := "zip") mT ?_)
  have g1 : Builtin.List.listSameRef (.ref S) (.ref zp) = false := by simp [Builtin.List.listSameRef, Nat.ne_of_gt L.zp]
  have g2 : (Value.type "zip" == Value.type "list") = false := by decide
  have g3 : (Value.type "zip" == Value.type "tuple") = false := by decide
  simp only [g1, g2, g3, Bool.or_false, Bool.false_eq_true, if_false]
  refine wpAny_bind (wpAny_pyIter_zip mz (wpAny_bind (wpAny_holding (hint mT ?_))))
  refine wpAny_ite_split (fun _ => ?_) (fun q => absurd rfl q)
  refine wpAny_bind (wpAny_rule (wpAny_bind ?_)); show wpAny _ _ (updateSeq S (·.push .none) >>= fun _ => updateSeq S (·.pop)) _ _ _
  refine wpAny_bind (wpAny_updateSeq mS rfl ?_)
  have mS2 := Heap.get?_update_self (Obj.mapSeq (·.push Value.none)) mS rfl
  refine wpAny_updateSeq (hz := by seq_fits) mS2 rfl ?_
  have mS3 := Heap.get?_update_self (Obj.mapSeq (·.pop)) mS2 rfl
  have oth : ∀ b o, b ≠ S → s.heap.get? b = some o → ((s.heap.update S (Obj.mapSeq (·.push Value.none))).update S (Obj.mapSeq (·.pop))).get? b = some o := fun b o qb e => (Heap.get?_update_other _ _ (Ne.symm qb)).trans ((Heap.get?_update_other _ _ (Ne.symm qb)).trans e)
  refine wpAny_pure ⟨plainId_quiet PySem.F.plain_extend_loop _, ?_⟩
  exact loop (s := s) (h₁ := s.heap) nh D L hx hy hn res kR n 0 _ _ _ #[] [] (Nat.sub_zero _) (Nat.zero_le _) (st.keep L oth) (fun b o q1 _ _ _ _ e => oth b o q1 e) mS3 rfl rfl ⟨List.Pairwise.nil, (fun _ qa => nomatch qa), (fun j a ej => by simp at ej)⟩
theorem init {R : Result → Shared → Prop} (nh : Ar.handled = none) (D : ZipApart zp TI TO i1 i2 l1 l2) (L : Lo zp TI TO i1 i2 l1 l2 S) {n : Nat} (hx : xs.size = n) (hy : ys.size = n) (hn : n ≤ sizeLine) (mz : IsZip s.heap zp TI TO .none) (st : St s.heap zp TI TO i1 i2 l1 l2 S xs ys 0)
    (mS : s.heap.get? S = some { cls := .type "list", data := .seq #[] })
    (kR : ∀ h' tk got c as, (∀ b o, b ≠ S → b ≠ zp → b ≠ TO → b ≠ i1 → b ≠ i2 → s.heap.get? b = some o → h'.get? b = some o) → h'.get? S = some { cls := .type "list", dict := none, data := .seq got c, slots := #[] } → as.length = n → G xs ys S h' as →
      got.toList = as.map Value.ref → R (.ok (.ret .none)) { s with heap := h', toks := tk }) :
    wpAny (model pg wd) Ar.in1 (Builtin.«list.__init__» ⟨[.ref S, .ref zp], []⟩)
      (fun fin s' => match fin with | .done f => R (.ok f) s' | .again c' => c'.quiet = true ∧ codeAny (model pg wd) Ar c' R s') (fun e s' => R (.error e) s') s := by
  show wpAny _ _ (do let old ← Builtin.List.listItems (.ref S); Builtin.List.listUpdate (.ref S) (fun _ => #[]); letGo old.toList.reverse; Builtin.List.listExtendWith (.ref S) (.ref zp) .none) _ _ s
  refine wpAny_bind ?_
  unfold Builtin.List.listItems
  refine wpAny_bind (wpAny_seqItems mS rfl (wpAny_pure ?_))
  show wpAny _ _ (updateSeq S (fun _ => #[]) >>= fun _ => letGo (#[] : Array Value).toList.reverse >>= fun _ => Builtin.List.listExtendWith (.ref S) (.ref zp) .none) _ _ s
  refine wpAny_bind (wpAny_updateSeq mS rfl ?_)
  have mS2 := Heap.get?_update_self (Obj.mapSeq (fun _ => (#[] : Array Value))) mS rfl
  have oth : ∀ b o, b ≠ S → s.heap.get? b = some o → (s.heap.update S (Obj.mapSeq (fun _ => (#[] : Array Value)))).get? b = some o := fun b o qb e => (Heap.get?_update_other _ _ (Ne.symm qb)).trans e
  refine wpAny_bind (wpAny_letGo ?_); exact extend nh D L hx hy hn (oth _ _ (Nat.ne_of_lt L.zp) mz) (st.keep L oth) .none _ mS2 fun h' tk got c as hk hS' hl mG macc => kR h' tk got c as (fun b o q1 q2 q3 q4 q5 e => hk b o q1 q2 q3 q4 q5 (oth b o q1 e)) hS' hl mG macc
/-- list(zp), zp a zip of two lists of one length -/
theorem call_list {Q : Value → Shared → Prop} (nh : Ar.handled = none) (D : ZipApart zp TI TO i1 i2 l1 l2) {n : Nat} (hx : xs.size = n) (hy : ys.size = n) (hn : n ≤ sizeLine) (mz : IsZip s.heap zp TI TO .none) (mTI : IsPair s.heap TI (.ref i1) (.ref i2)) {u v : Value} (mTO : IsPair s.heap TO u v)
    (h1 : s.heap.IsListIter i1 l1 0) (h2 : s.heap.IsListIter i2 l2 0) (hl1 : s.heap.IsList l1 xs) (hl2 : s.heap.IsList l2 ys)
    (kQ : ∀ h' tk got c as, (∀ b o, b ≠ zp → b ≠ TO → b ≠ i1 → b ≠ i2 → s.heap.get? b = some o → h'.get? b = some o) → h'.get? s.heap.objs.size = some { cls := .type "list", dict := none, data := .seq got c, slots := #[] } → as.length = n → G xs ys s.heap.objs.size h' as →
      got.toList = as.map Value.ref → Q (.ref s.heap.objs.size) { s with heap := h', toks := tk }) :
    wpAny (model pg wd) Ar (call (.type "list") [.ref zp]) Q E s := by
  refine callType_codes (Q₁ := fun ob sB => ob = .ref s.heap.objs.size ∧ sB = { s with heap := s.heap.push { cls := .type "list", data := .seq #[] } }) PySem.F.called_list (PySem.F.typeCall_list_1 _) PySem.F.entry_list_init
    (code_list_new _ ⟨rfl, rfl⟩) fun ob sB hB => ?_
  obtain ⟨rfl, rfl⟩ := hB
  have mS : (s.heap.push { cls := .type "list", data := .seq #[] }).get? s.heap.objs.size = some { cls := .type "list", data := .seq #[] } := Heap.get?_push_size _ rfl
  have pu : ∀ b o, s.heap.get? b = some o → (s.heap.push { cls := .type "list", data := .seq #[] }).get? b = some o := fun b o e => Heap.get?_push_of_some _ e
  have L : Lo zp TI TO i1 i2 l1 l2 s.heap.objs.size := ⟨Heap.lt_size mz, Heap.lt_size mTI, Heap.lt_size mTO, let ⟨_, e, _⟩ := h1; Heap.lt_size e, let ⟨_, e, _⟩ := h2; Heap.lt_size e, let ⟨_, e, _⟩ := hl1; Heap.lt_size e, let ⟨_, e, _⟩ := hl2; Heap.lt_size e⟩
  refine ⟨⟨_, mS, rfl⟩, PySem.F.args_list_init_2 _ _, init (Ar := Ar.in1) nh D L hx hy hn (pu _ _ mz) ⟨pu _ _ mTI, h1.at fun o e => pu _ o e, h2.at fun o e => pu _ o e, hl1.at fun o e => pu _ o e, hl2.at fun o e => pu _ o e, .inl ⟨pu _ _ mz, u, v, pu _ _ mTO⟩⟩ mS fun h' tk got c as hk hS' hl mG macc => ?_⟩
  exact ⟨rfl, kQ h' tk got c as (fun b o q2 q3 q4 q5 e => hk b o (Nat.ne_of_lt (Heap.lt_size e)) q2 q3 q4 q5 (pu b o e)) hS' hl mG macc⟩
end
end Zl
set_option Elab.async false
set_option linter.all false
set_option maxRecDepth 100000
set_option maxHeartbeats 8000000
namespace My
open PySem PySem.Spec PyProof.Rows L2
/-! ### list(zip(a, b)) by the hand layer -/
def putP : Hp → List Addr → List (V × V) → Hp
  | H, a :: as, p :: ps => putP (upd H a (.tup [p.1, p.2])) as ps
  | H, _, _ => H
theorem putP_off {b : Addr} : ∀ (as : List Addr) (ps : List (V × V)) (H : Hp), b ∉ as → putP H as ps b = H b
  | [], _, _, _ => rfl
  | _ :: _, [], _, _ => rfl
  | a :: as, p :: ps, H, h => by
    show putP (upd H a (.tup [p.1, p.2])) as ps b = H b
    rw [putP_off as ps _ (fun z => h (List.mem_cons_of_mem _ z))]
    exact upd_ne (fun z => h (by rw [z]; exact List.mem_cons_self))
theorem putP_at : ∀ (as : List Addr) (ps : List (V × V)) (H : Hp), as.length = ps.length → as.Nodup → ∀ (j : Nat) (t : Addr) (p : V × V), as[j]? = some t → ps[j]? = some p → putP H as ps t = some (.tup [p.1, p.2])
  | [], _, _, _, _, j, t, p, e, _ => by simp at e
  | _ :: _, [], _, _, _, j, t, p, _, e => by simp at e
  | a :: as, q :: ps, H, hl, nd, j, t, p, e1, e2 => by
    have nd' := List.nodup_cons.mp nd
    show putP (upd H a (.tup [q.1, q.2])) as ps t = _
    cases j with
    | zero =>
      have w1 : a = t := by simpa using e1
      have w2 : q = p := by simpa using e2
      subst w1 w2
      rw [putP_off as ps _ nd'.1]
      exact upd_same
    | succ j => exact putP_at as ps _ (by simpa using hl) nd'.2 j t p (by simpa using e1) (by simpa using e2)
theorem vals_rf : ∀ as : List Addr, Vals (as.map V.ref) (as.map Value.ref)
  | [] => .nil
  | _ :: as => .cons rfl (vals_rf as)
def rLZ (K : PySem.W.Frag) : List V → Hp → VK → Prop := fun vs H Q => ∃ (a b : Addr) (xs ys : List V), vs = [.ref a, .ref b] ∧ SqL K H a xs ∧ SqL K H b ys ∧ xs.length = ys.length ∧ xs.length ≤ sizeLine ∧
  ∀ (H' : Hp) (p : Addr) (ts : List Addr), Same H H' → H p = none → ts.length = xs.length → H' p = some (.lst (ts.map V.ref)) → (∀ (j : Nat) (t : Addr) (x y : V), ts[j]? = some t → xs[j]? = some x → ys[j]? = some y → H' t = some (.tup [x, y])) → Q (.ref p) H'
section
variable {X : L2.Cx}
theorem zip_laid {pins : List (Addr × Obj)} {σ : L2.St} {H : Hp} {s : Shared} {h' : Heap} {tk : Nat} {xs ys : List V} {us vs acc : Array Value} {c : Nat} {as : List Addr} {S : Addr} (I : Inv X pins σ H s) (hz : xs.length ≤ sizeLine) (hxy : xs.length = ys.length) (rx : Vals xs us.toList) (ry : Vals ys vs.toList)
    (hk : ∀ b o, s.heap.get? b = some o → h'.get? b = some o) (hSs : s.heap.objs.size ≤ S) (hS : h'.get? S = some { cls := .type "list", dict := none, data := .seq acc c, slots := #[] }) (hl : as.length = xs.length) (hG : Zl.G us vs S h' as) (hacc : acc.toList = as.map Value.ref) :
    ∃ H' : Hp, Same H H' ∧ H S = none ∧ H' S = some (.lst (as.map V.ref)) ∧ (∀ (j : Nat) (t : Addr) (x y : V), as[j]? = some t → xs[j]? = some x → ys[j]? = some y → H' t = some (.tup [x, y])) ∧ Inv X pins σ H' { s with heap := h', toks := tk } := by
  have hSn : S ∉ as := fun z => Nat.lt_irrefl _ (hG.above _ z)
  have nd : as.Nodup := List.Pairwise.imp (fun {x y} (q : x < y) => Nat.ne_of_lt q) hG.rise
  have new : ∀ t ∈ as, H t = none := fun t ht => I.hok.fresh (Nat.le_of_lt (Nat.lt_of_le_of_lt hSs (hG.above t ht)))
  have newS : H S = none := I.hok.fresh hSs
  have lz : as.length = (xs.zip ys).length := by rw [List.length_zip]; omega
  have at_ := putP_at as (xs.zip ys) (upd H S (.lst (as.map V.ref))) lz nd
  have off : ∀ b, b ∉ as → b ≠ S → putP (upd H S (.lst (as.map V.ref))) as (xs.zip ys) b = H b := fun b h1 h2 => by rw [putP_off as _ _ h1, upd_ne h2]
  have low : ∀ b o, s.heap.get? b = some o → b ∉ as ∧ b ≠ S := fun b o e => ⟨fun z => absurd (Heap.lt_size e) (Nat.not_lt.mpr (Nat.le_trans hSs (Nat.le_of_lt (hG.above b z)))), Nat.ne_of_lt (Nat.lt_of_lt_of_le (Heap.lt_size e) hSs)⟩
  have kp : ∀ b u, H b = some u → (putP (upd H S (.lst (as.map V.ref))) as (xs.zip ys)) b = some u := fun b u e => by
    rw [off b (fun z => by rw [new b z] at e; cases e) (fun z => by rw [z, newS] at e; cases e)]; exact e
  have eS : putP (upd H S (.lst (as.map V.ref))) as (xs.zip ys) S = some (.lst (as.map V.ref)) := by rw [putP_off as _ _ hSn, upd_same]
  refine ⟨_, kp, newS, eS, fun j t x y e1 e2 e3 => at_ j t (x, y) e1 (List.getElem?_zip_eq_some.mpr ⟨e2, e3⟩), ?_⟩; refine I.call' (ch := []) rfl ⟨fun b o q _ _ _ => hk b o q, fun b o q _ _ _ => ⟨o.slots, hk b o q⟩, fun b o q n _ => ?_, fun b o q _ => ⟨o, hk b o q⟩, fun b xs q => kp b _ q, fun b o u q => kp b _ q, fun b ps q => ⟨#[], by rw [kp b _ q]; simp⟩⟩ (fun b u q => ?_) I.bare fun b z => by simp at z
  · obtain ⟨z1, z2⟩ := low b o q; rw [off b z1 z2]
    exact n
  · by_cases hb : b ∈ as
    · obtain ⟨j, ej⟩ := List.mem_iff_getElem?.mp hb
      obtain ⟨u', v', f1, f2, f3⟩ := hG.pairs j b ej
      have jl : j < as.length := (List.getElem?_eq_some_iff.mp ej).1
      have ex := List.getElem?_eq_getElem (l := xs) (i := j) (by omega)
      have ey := List.getElem?_eq_getElem (l := ys) (i := j) (by omega)
      rw [at_ j b (xs[j], ys[j]) ej (List.getElem?_zip_eq_some.mpr ⟨ex, ey⟩)] at q
      cases q
      have r1 : RelV xs[j] u' := by
        obtain ⟨w1, w2, w3⟩ := LiI.paired_get rx ex
        rw [Array.getElem?_toList] at w2
        rw [f1] at w2
        cases w2
        exact w3
      have r2 : RelV ys[j] v' := by
        obtain ⟨w1, w2, w3⟩ := LiI.paired_get ry ey
        rw [Array.getElem?_toList] at w2
        rw [f2] at w2
        cases w2
        exact w3
      exact ⟨by show 2 ≤ sizeLine; decide, [u', v'], .cons r1 (.cons r2 .nil), ⟨_, f3, rfl, _, rfl⟩⟩
    · by_cases hb2 : b = S
      · subst hb2
        rw [eS] at q
        cases q
        refine ⟨by rw [List.length_map]; omega, acc.toList, c, by rw [hacc]; exact vals_rf as, ?_⟩
        rw [Array.toArray_toList]
        exact hS
      · rw [off b hb hb2] at q; exact (I.hok b u q).stay (fun d v _ y => hk d v y) (fun d y => kp d _ y) fun d xs y => kp d _ y
variable {e e2 : Expr} {ta : TA} {p p2 pos pos2 : Pos}
theorem pe_listZip (hc : X.calm = true) (ha : PA X [e, e2] ta) (hgL : Gl X "list") (hmL : X.mg "list" = none) (hgZ : Gl X "zip") (hmZ : X.mg "zip" = none)
    (hs : starEach [.Call (.Name "zip" p2) [e, e2] [] pos2] X.env = (false, eval (.Call (.Name "zip" p2) [e, e2] [] pos2) X.env) :: starEach [] X.env := by rfl)
    (hs2 : starEach [e, e2] X.env = (false, eval e X.env) :: starEach [e2] X.env := by rfl) (hpl : (backTo pos2 (starEach [e2] X.env)).any (·.1) = false := by rfl) :
    PE X (.Call (.Name "list" p) [.Call (.Name "zip" p2) [e, e2] [] pos2] [] pos) (fun σ H Q => ta σ H fun vs H1 => rLZ X.K vs H1 Q) := by
  refine ⟨fun pins s σ H Q I hq => ?_⟩; refine wpAny_Call_Name_kw (ld_blt I hgL hmL (show bootBuiltins "list" = some (.type "list") by decide +kernel) (PyProof.Rows.callWith_type1 ?_ hs rfl))
  rw [hs]
  show wpAny _ _ (spliced ((false, eval (.Call (.Name "zip" p2) [e, e2] [] pos2) X.env) :: backTo pos (starEach [] X.env))) _ _ s
  refine Calls.spliced_cons (wpAny_Call_Name_kw (ld_blt I hgZ hmZ PyProof.Rows.boot_zip (PyProof.Rows.callWith_type1 (thn (ha.run pos2 pins s σ H _ I hq) fun us s1 ⟨vs, H1, I1, r1, q1⟩ => ?_) hs2 hpl)))
  obtain ⟨a, b, xs, ys, ex, hqx, hqy, hxy, hz, q⟩ := q1
  subst ex
  cases r1 with
  | cons r rr =>
    cases rr with
    | cons r' rr =>
      cases rr
      cases r
      cases r'
      obtain ⟨its, rv, k1, _⟩ := I1.list hqx
      obtain ⟨its2, rv2, k2, _⟩ := I1.list hqy
      refine call_zip_2 k1.isList k2.isList fun h' hz' hTI hTO h1 h2 hsz hk => ?_
      refine Calls.spliced_nil ?_
      have la : a < s1.heap.objs.size := k1.lt
      have lb : b < s1.heap.objs.size := k2.lt
      have ln1 := rv.length
      have ln2 := rv2.length
      refine Zl.call_list (s := { s1 with heap := h' }) (n := xs.length) (I1.ok.hd hc) (PySem.W.ktu_apart _ _ _ la lb) (by simp; omega) (by simp; omega) hz hz' hTI hTO h1 h2 (k1.isList.at fun o e => hk _ o e) (k2.isList.at fun o e => hk _ o e) fun h'' tk acc c as hk2 hS hl hG hacc => ?_
      dsimp only at hk2 hS hG ⊢
      have hkk : ∀ b o, s1.heap.get? b = some o → h''.get? b = some o := fun b o e => by
        have l := Heap.lt_size e
        exact hk2 b o (Nat.ne_of_lt (Nat.lt_of_lt_of_le l (Nat.le_add_right _ _))) (Nat.ne_of_lt (Nat.lt_of_lt_of_le l (Nat.le_add_right _ _))) (Nat.ne_of_lt l) (Nat.ne_of_lt (Nat.lt_of_lt_of_le l (Nat.le_add_right _ _))) (hk b o e)
      obtain ⟨H', g1, g2, g3, g4, J⟩ := zip_laid (tk := tk) I1 hz hxy (us := its.toArray) (vs := its2.toArray) (by simpa using rv) (by simpa using rv2) hkk (by omega) hS hl hG hacc
      exact ⟨.ref _, H', J, rfl, q H' _ as g1 g2 hl g3 g4⟩
/-! ### x in t, t a tuple of data -/
def rInT (K : PySem.W.Frag) : R2 := fun x y H Q => ∃ d ds, Dp K H x d ∧ Dp K H y (.tuple ds) ∧ SeqAt.shaped d = true ∧ SeqAt.shaped (.tuple ds) = true ∧ Q (.bl (ds.any fun z => PyData.eqv z d)) H
theorem op_inT (hu : X.A.units + 65 < cLine) : OpR X (compareOp .In) (rInT X.K) := by
  intro pins s σ H x y v u Q I rx ry h; obtain ⟨d, ds, hd, he, sd, se, q⟩ := h
  obtain ⟨as, r1⟩ := Dp.reads I d x v hd rx; obtain ⟨bs, r2⟩ := Dp.reads I (.tuple ds) y u he ry
  exact SeqAt.in_tuple_reads r2 r1 (SeqAt.canLay_of_shaped se) (SeqAt.canLay_of_shaped sd) (room_in_shaped sd hu) ⟨.bl _, H, I, rfl, q⟩
/-- math.lcm of two numbers -/
def rLcm : List V → Hp → VK → Prop := fun vs H Q => ∃ a b : Int, vs = [.int a, .int b] ∧ a.natAbs < 2 ^ 20 ∧ b.natAbs < 2 ^ 20 ∧ Q (.int ((Nat.lcm a.natAbs b.natAbs : Nat) : Int)) H
theorem cr_lcm : CallR X (.builtin "math.lcm") rLcm := by
  intro pins s σ H vs us Q I r h; obtain ⟨a, b, rfl, ha, hb, q⟩ := h
  obtain ⟨t, u, rfl⟩ := Vals.int2 r; exact PySem.W.mc_lcm (by omega) (by omega) fun _ => ⟨.int _, H, I.tok _, ⟨_, rfl⟩, q⟩
end
end My
set_option Elab.async false
set_option linter.all false
set_option maxRecDepth 100000
set_option maxHeartbeats 8000000
namespace My
open PySem PySem.Spec PyProof.Rows L2
local macro_rules | `(tactic| walk_at "lv") => `(tactic| first | exact Or.inl rfl | exact Or.inr rfl)
/-! ### rows of flags -/
def rowB (f : Int → Bool) (lo : Int) (n : Nat) : List Bool := (List.range n).map fun (k : Nat) => f (lo + (k : Int))
theorem rowB_len {f : Int → Bool} {lo : Int} {n : Nat} : (rowB f lo n).length = n := by unfold rowB; rw [List.length_map, List.length_range]
theorem rowB_succ {f : Int → Bool} {lo : Int} {n : Nat} : rowB f lo (n + 1) = rowB f lo n ++ [f (lo + (n : Int))] := by
  unfold rowB
  rw [List.range_succ, List.map_append]
  rfl
theorem rowB_add {f : Int → Bool} {lo : Int} {n : Nat} : ∀ m, rowB f lo (n + m) = rowB f lo n ++ rowB f (lo + n) m
  | 0 => by rw [Nat.add_zero]; show _ = _ ++ []; rw [List.append_nil]
  | m + 1 => by
    rw [← Nat.add_assoc, rowB_succ, rowB_succ, rowB_add m, List.append_assoc]
    congr 4
    push_cast
    omega
theorem rowB_get {f : Int → Bool} {lo : Int} {n k : Nat} (h : k < n) : (rowB f lo n).getD k false = f (lo + (k : Int)) := by
  unfold rowB
  rw [List.getD_eq_getElem?_getD, List.getElem?_map, List.getElem?_range h]; rfl
theorem rowB_cong {f g : Int → Bool} {lo : Int} {n : Nat} (h : ∀ x, lo ≤ x → x < lo + n → f x = g x) : rowB f lo n = rowB g lo n := by
  unfold rowB
  refine List.map_congr_left fun k hk => ?_
  have := List.mem_range.mp hk
  exact h (lo + k) (by omega) (by omega)
/-- three rows on end -/
theorem rowB_three {f g1 g2 g3 : Int → Bool} {lo a2 a3 : Int} {n1 n2 n3 n : Nat} (hn : n1 + n2 + n3 = n) (h2 : 0 < n2 → a2 = lo + n1) (h3 : 0 < n3 → a3 = lo + n1 + n2) (e1 : ∀ x, lo ≤ x → x < lo + n1 → g1 x = f x) (e2 : ∀ x, a2 ≤ x → x < a2 + n2 → g2 x = f x) (e3 : ∀ x, a3 ≤ x → x < a3 + n3 → g3 x = f x) :
    rowB g1 lo n1 ++ rowB g2 a2 n2 ++ rowB g3 a3 n3 = rowB f lo n := by
  have z : ∀ (g : Int → Bool) (a : Int), rowB g a 0 = [] := fun _ _ => rfl
  subst hn
  rw [rowB_add, rowB_add, rowB_cong e1, rowB_cong e2, rowB_cong e3]
  congr 1
  · congr 1
    rcases Nat.eq_zero_or_pos n2 with q | q
    · rw [q, z, z]
    · rw [h2 q]
  · rcases Nat.eq_zero_or_pos n3 with q | q
    · rw [q, z, z]
    · rw [h3 q]
      congr 1
      push_cast
      omega
/-- a lot's data, as the walks need them -/
structure LotD (lo hi : Int) (xs : List Int) (m : Nat) (us ds : List Int) : Prop where
  sz : lo ≤ hi + 1
  b1 : -20000 ≤ lo
  b2 : hi ≤ 20000
  i : ∀ n ∈ xs, lo ≤ n ∧ n ≤ hi
  u : ∀ r ∈ us, 0 ≤ r ∧ r < m
  d : ∀ r ∈ ds, 0 ≤ r ∧ r < m
  pos : 0 < m
  m1 : m ≤ 10080
  li : xs.length ≤ 50000
section
variable {P : Program} {w : World} {K : PySem.W.Frag} {mg : Str → Option Value} {base : Heap}
/-! ### lot_flags -/
def spLF (C : Addr) : Sp := fun vs H Q _ => ∃ (p : Addr) (low high lo hi : Int) (m : Nat) (xs us ds : List Int), vs = [.ref p, .int low, .int high] ∧ LotAt C H p lo hi xs m us ds ∧ LotD lo hi xs m us ds ∧ (low ≤ high + 1 ∧ -100000 ≤ low ∧ high ≤ 100000 ∧ high - low < 50000) ∧
  ∀ a H', H a = none → Same H H' → H' a = some (.lst ((rowB (lotHas lo hi xs m us ds) low (high + 1 - low).toNat).map V.bl)) → Q (.ref a) H'
abbrev s_lf : Stmt := top 33
abbrev N_lf : List Str := ["lot", "low", "high", "downs", "ups", "held", "number", "flags", "n"]
theorem sc_lf : FnScope N_lf ["lot", "low", "high"] (defScope s_lf) := ⟨rfl, rfl, rfl, by decide +kernel, rfl, by decide +kernel, by decide +kernel⟩
theorem ix_mod {bs : List Bool} {us : List Int} {m : Nat} (hm : 0 < m) (hl : bs.length = m) (hg : ∀ k : Nat, k < bs.length → bs.getD k false = decide (0 + (k : Int) ∈ us)) (x : Int) : atI (bs.map V.bl) (x % (m : Int)) = some (.bl (decide (x % (m : Int) ∈ us))) := by
  have k0 := Int.emod_nonneg x (by omega : (m : Int) ≠ 0)
  have k1 := Int.emod_lt_of_pos x (by omega : (0 : Int) < (m : Int))
  rw [blI_get k0 (by omega), hg _ (by omega)]
  rw [show (0 : Int) + ((x % (m : Int)).toNat : Int) = x % (m : Int) by omega]
theorem kp_lf {C : Addr} (F : At K mg "lot_flags" s_lf) (T : LotTxt K mg C) (N : Nb mg) (nMax : mg "max" = none) (Gf : Keeps CX0 P w K mg base "_flags" 1 ["low", "high", "numbers"] spFlags) : Keeps CX0 P w K mg base "lot_flags" 2 ["lot", "low", "high"] (spLF C) := by
  refine keeps_of F sc_lf (fun _ _ _ _ _ _ us hl => match us, hl with | [_, _, _], _ => rfl) (fun vs H Q E h => ?_) (fun f cdv A outer s H vs Q E hr h => ?_)
  · obtain ⟨p, low, high, lo, hi, m, xs, us, ds, rfl, _⟩ := h
    rfl
  · obtain ⟨p, low, high, lo, hi, m, xs, us, ds, rfl, ⟨dx, a1, a2, a3, hp, h1, h2, h3⟩, L, ⟨r1, r2, r3, r4⟩, k⟩ := h
    have hu := hu_of hr
    have mp := L.pos
    have mp' : (0 : Int) < (m : Int) := by omega
    have m1 := L.m1
    have sz := L.sz
    have b1 := L.b1
    have b2 := L.b2
    refine ⟨_, (pss_cons (ps_set (i := 3) sc_lf.nd rfl (by walk_at "lv") (pe_k Gf hr (by rfl) pass0 (pa_cons pe_int (pa_cons (pe_op op_sub (pe_fld (pv 0) rfl) pe_int) (pa_cons (pe_fld (pv 0) rfl) pa_nil)))))
        (pss_cons (ps_set (i := 4) sc_lf.nd rfl (by walk_at "lv") (pe_k Gf hr (by rfl) pass0 (pa_cons pe_int (pa_cons (pe_op op_sub (pe_fld (pv 0) rfl) pe_int) (pa_cons (pe_fld (pv 0) rfl) pa_nil)))))
        (pss_cons (ps_set (i := 5) sc_lf.nd rfl (by walk_at "lv") (pe_dc (own := [("number", 6)]) (g := gName 6) (tt := tYes) (tk := tVar 6) (tv := tC (.bl true)) rfl sc_lf.nd (pi_tup (pe_fld (pv 0) rfl)) (blkOk_by (N := N_lf) (sc := defScope s_lf) (by decide +kernel)) (fun _ _ _ _ _ => (pg_name (i := 6) sc_lf.nd rfl (by walk_at "lv"))) (fun _ _ _ _ _ => pts_nil) (fun _ _ _ _ _ => (pv 6)) (fun _ _ _ _ _ => pe_bl)))
        (pss_cons (ps_setLc (i := 7) (own := [("n", 8)]) (g := gName 8) (tt := tYes) rfl sc_lf.nd rfl rfl (sw_true rfl rfl rfl (by decide +kernel)) (pi_range2 (by rfl) N.range (pa_cons (pv 1) (pa_cons (pe_op op_add (pe_callB (call_min2 rfl) (by rfl) N.min (by decide +kernel) (pa_cons (pv 2) (pa_cons (pe_op op_sub (pe_fld (pv 0) rfl) pe_int) pa_nil))) pe_int) pa_nil))) (blkOk_by (N := N_lf) (sc := defScope s_lf) (by decide +kernel)) (fun _ _ _ _ _ => (pg_name (i := 8) sc_lf.nd rfl (by walk_at "lv"))) (fun _ _ _ _ _ => pts_nil) (fun _ _ _ _ _ => (pe_ix (r := rIxL K) ix_list (pv 3) (pe_op op_mod (pv 8) (tb := tFld K (tVar 0) "modulus") (pe_fld (pv 0) rfl)) (fun _ _ => rfl))))
        (pss_cons (ps_expr (pe_bm PySem.F.plainAttrs_list PySem.F.slot_list_extend PySem.F.type_list_extend mt_extend (pv 7) (pa_cons (pe_lc (own := [("n", 8)]) (g := gName 8) (tt := tYes) rfl sc_lf.nd (pi_range2 (by rfl) N.range (pa_cons (pe_callB (call_max2 rfl) (by rfl) nMax (by decide +kernel) (pa_cons (pv 1) (pa_cons (pe_fld (pv 0) rfl) pa_nil))) (pa_cons (pe_op op_add (pe_callB (call_min2 rfl) (by rfl) N.min (by decide +kernel) (pa_cons (pv 2) (pa_cons (pe_fld (pv 0) rfl) pa_nil))) pe_int) pa_nil))) (blkOk_by (N := N_lf) (sc := defScope s_lf) (by decide +kernel)) (fun _ _ _ _ _ => (pg_name (i := 8) sc_lf.nd rfl (by walk_at "lv"))) (fun _ _ _ _ _ => pts_nil) (fun _ _ _ _ _ => (pe_cmp (pc_din hu (pv 8) (pv 5)) rfl))) pa_nil)))
        (pss_cons (ps_expr (pe_bm PySem.F.plainAttrs_list PySem.F.slot_list_extend PySem.F.type_list_extend mt_extend (pv 7) (pa_cons (pe_lc (own := [("n", 8)]) (g := gName 8) (tt := tYes) rfl sc_lf.nd (pi_range2 (by rfl) N.range (pa_cons (pe_callB (call_max2 rfl) (by rfl) nMax (by decide +kernel) (pa_cons (pv 1) (pa_cons (pe_op op_add (pe_fld (pv 0) rfl) pe_int) pa_nil))) (pa_cons (pe_op op_add (pv 2) pe_int) pa_nil))) (blkOk_by (N := N_lf) (sc := defScope s_lf) (by decide +kernel)) (fun _ _ _ _ _ => (pg_name (i := 8) sc_lf.nd rfl (by walk_at "lv"))) (fun _ _ _ _ _ => pts_nil) (fun _ _ _ _ _ => (pe_ix (r := rIxL K) ix_list (pv 4) (pe_op op_mod (pv 8) (tb := tFld K (tVar 0) "modulus") (pe_fld (pv 0) rfl)) (fun _ _ => rfl)))) pa_nil)))
        (pss_one (ps_ret (pv 7))))))))), ?_⟩
    refine ⟨_, rfl, p, C, dx, _, _, rfl, hp, T.cl, T.n4, lf_modulus, _, _, rfl, rfl, _, rfl, p, C, dx, _, _, rfl, hp, T.cl, T.n6, lf_downs, a3, ds, 0, _, rfl, .inr h3, by omega, by omega, by omega, by omega, (fun n hn => by have := L.d n hn; omega), fun q1 bs1 H1 n1 s1 e1 l1 g1 => ?_⟩
    refine ⟨_, rfl, p, C, dx, _, _, rfl, s1 _ _ hp, T.cl, T.n4, lf_modulus, _, _, rfl, rfl, _, rfl, p, C, dx, _, _, rfl, s1 _ _ hp, T.cl, T.n5, lf_ups, a2, us, 0, _, rfl, .inr (s1 _ _ h2), by omega, by omega, by omega, by omega, (fun n hn => by have := L.u n hn; omega), fun q2 bs2 H2 n2 s2 e2 l2 g2 => ?_⟩
    have s12 := s1.trans s2
    have e1 := s2 _ _ e1
    refine ⟨_, rfl, p, C, dx, _, _, rfl, s12 _ _ hp, T.cl, T.n3, lf_inside, a1, rfl, ⟨_, SqT.of (s12 _ _ h1)⟩, fun D hD => ?_⟩
    refine dc_tup (xs := xs.map V.int) (fun i H3 => Same H2 H3 ∧ ∃ kvs, H3 D = some (.dK kvs) ∧ kvs.length ≤ i ∧ ∀ n : Int, (valV kvs (Sum.inl n)).isSome = decide (n ∈ xs.take i)) ⟨same_new (Same.refl H2) hD, [], upd_same, Nat.le_refl 0, fun n => by simp [valV_nil]⟩ (fun i H3 _ h => SqT.of (h.1 _ _ (s12 _ _ h1))) ?_ ?_
    · rintro i x H3 hx ⟨s3, kvs, k1, k2, k3⟩
      obtain ⟨y, hy, rfl⟩ := int_at hx
      have il : i < xs.length := (List.getElem?_eq_some_iff.mp hy).1
      have ll := L.li
      refine ⟨rfl, _, rfl, kvs, Sum.inl y, rfl, k1, smallB (by omega), ?_, _, upd_same, Nat.le_trans (length_putK _ _ _) (by omega), fun n => ?_⟩
      · intro b o e
        rw [upd_ne (ne_of_none e hD)]
        exact s3 b o e
      · rw [valV_put, List.take_succ, hy]
        by_cases q : (Sum.inl n : Key) = Sum.inl y
        · cases q
          rw [if_pos rfl]
          simp
        · rw [if_neg q, k3]
          have q' : ¬ n = y := fun z => q (by rw [z])
          simp [q']
    rintro H3 ⟨s3, kvs, k1, _, k3⟩
    rw [List.length_map, List.take_length] at k3
    have s13 := s12.trans s3
    have hp3 := s13 _ _ hp
    have e1 := s3 _ _ e1
    have e2 := s3 _ _ e2
    generalize hA : (if lo - 1 < high then lo - 1 else high) = A1
    have vA : A1 = lo - 1 ∧ lo - 1 ≤ high ∨ A1 = high ∧ high ≤ lo - 1 := by split at hA <;> omega
    generalize hB : (if lo > low then lo else low) = B1
    have vB : B1 = lo ∧ low ≤ lo ∨ B1 = low ∧ lo ≤ low := by split at hB <;> omega
    generalize hC : (if hi < high then hi else high) = C1
    have vC : C1 = hi ∧ hi ≤ high ∨ C1 = high ∧ high ≤ hi := by split at hC <;> omega
    generalize hE : (if hi + 1 > low then hi + 1 else low) = E1
    have vE : E1 = hi + 1 ∧ low ≤ hi + 1 ∨ E1 = low ∧ hi + 1 ≤ low := by split at hE <;> omega
    refine ⟨_, rfl, _, rfl, _, rfl, p, C, dx, _, _, rfl, hp3, T.cl, T.n1, lf_low, _, _, rfl, rfl, _, _, rfl, ?_⟩
    rw [hA]
    refine ⟨_, _, rfl, rfl, _, _, rfl, ⟨by omega, by omega, by omega, by omega⟩, fun D4 hD4 => ?_⟩
    have monoX : ∀ (l : Nat) (σ2 : L2.St) (H2 : Hp) (Q1 Q2 : VK), (∀ b H3, Q1 b H3 → Q2 b H3) → tOp (rIxL K) (tVar l) (tOp (rI (fun _ j => 0 < j) fun i j => V.int (i % j)) (tVar 8) (tFld K (tVar 0) "modulus")) σ2 H2 Q1 → tOp (rIxL K) (tVar l) (tOp (rI (fun _ j => 0 < j) fun i j => V.int (i % j)) (tVar 8) (tFld K (tVar 0) "modulus")) σ2 H2 Q2 := by
      rintro l σ2 H2 Q1 Q2 h ⟨x1, g1, x2, g2, x3, g3, p', C', dx', fs', v', f1, f2, f3, f4, f5, i2, j2, f6, f7, f8, p3, ys, i3, v3, f9, f10, sq, at_, q⟩
      exact ⟨x1, g1, x2, g2, x3, g3, p', C', dx', fs', v', f1, f2, f3, f4, f5, i2, j2, f6, f7, f8, p3, ys, i3, v3, f9, f10, sq, at_, h _ _ q⟩
    refine lc_itF (G := fun _ => True) walk_range hD4 (fun i => (rowB (fun n => decide (n % (m : Int) ∈ ds)) low i).map V.bl) rfl (fun i hi' => smallB (by rw [List.length_map, rowB_len]; omega)) (fun _ _ => trivial) ?_ ?_ ?_ ?_ ?_
    · rintro i x H4 H5 hi' eD s4 ⟨rfl, rfl⟩
      refine ⟨rfl, _, rfl, _, rfl, _, rfl, p, C, dx, _, _, rfl, s4 _ _ hp3, T.cl, T.n4, lf_modulus, _, _, rfl, rfl, mp', q1, _, _, _, rfl, rfl, SqL.of (s4 _ _ e1), ix_mod mp (by omega) g1 _, eD, s4, ?_⟩
      rw [rowB_succ, List.map_append]
      rfl
    · exact fun x H' Q Q' h q => h _ _ q
    · exact fun σ2 H2 Q1 Q2 h q => h _ _ q
    · exact fun σ2 H2 Q1 Q2 h q => monoX 3 σ2 H2 Q1 Q2 h q
    intro H4 eD4 s4
    have hp4 := s4 _ _ hp3
    refine ⟨_, rfl, .inl ⟨rfl, _, SqL.of eD4⟩, _, rfl, _, rfl, p, C, dx, _, _, rfl, hp4, T.cl, T.n1, lf_low, _, _, rfl, _, rfl, _, rfl, p, C, dx, _, _, rfl, hp4, T.cl, T.n2, lf_high, _, _, rfl, ?_⟩
    rw [hC]
    refine ⟨_, _, rfl, rfl, _, _, rfl, ?_, fun D5 hD5 => ?_⟩
    · rw [hB]
      exact ⟨by omega, by omega, by omega, by omega⟩
    rw [hB]
    refine lc_itF (G := fun _ => True) walk_range hD5 (fun i => (rowB (fun n => decide (n ∈ xs)) B1 i).map V.bl) rfl (fun i hi' => smallB (by rw [List.length_map, rowB_len]; omega)) (fun _ _ => trivial) ?_ ?_ ?_ ?_ ?_
    · rintro i x H5 H6 hi' eD s5 ⟨rfl, rfl⟩
      refine ⟨rfl, _, rfl, _, rfl, D, _, rfl, DGet.k (k := Sum.inl (B1 + (i : Int))) (s5 _ _ (s4 _ _ k1)), eD, s5, ?_⟩
      rw [rowB_succ, List.map_append, k3]
      rfl
    · exact fun x H' Q Q' h q => h _ _ q
    · exact fun σ2 H2 Q1 Q2 h q => h _ _ q
    · rintro σ2 H2 Q1 Q2 h ⟨x1, g1, x2, g2, a, o, f1, f2, q⟩
      exact ⟨x1, g1, x2, g2, a, o, f1, f2, h _ _ q⟩
    intro H5 eD5 s5
    have n45 : D4 ≠ D5 := ne_of_none eD4 hD5
    refine ⟨D4, D5, _, _, rfl, rfl, s5 _ _ eD4, eD5, ?_, ?_⟩
    · rw [List.length_map, List.length_map, rowB_len, rowB_len]
      exact Nat.le_of_lt (smallB (by omega))
    rw [← List.map_append]
    have k1' := s5 _ _ (s4 _ _ k1)
    generalize hH6 : upd H5 D4 (.lst ((rowB (fun n => decide (n % (m : Int) ∈ ds)) low (A1 + 1 - low).toNat ++ rowB (fun n => decide (n ∈ xs)) B1 (C1 + 1 - B1).toNat).map V.bl)) = H6
    have s36 : ∀ b o, b ≠ D4 → H3 b = some o → H6 b = some o := fun b o hb e => by
      rw [← hH6, upd_ne hb]
      exact s5 _ _ (s4 _ _ e)
    have e64 : H6 D4 = some (.lst ((rowB (fun n => decide (n % (m : Int) ∈ ds)) low (A1 + 1 - low).toNat ++ rowB (fun n => decide (n ∈ xs)) B1 (C1 + 1 - B1).toNat).map V.bl)) := by rw [← hH6]; exact upd_same
    have hp6 := s36 _ _ (ne_of_none hp3 hD4) hp3
    have e26 := s36 _ _ (ne_of_none e2 hD4) e2
    refine ⟨_, rfl, .inl ⟨rfl, _, SqL.of e64⟩, _, rfl, _, rfl, p, C, dx, _, _, rfl, hp6, T.cl, T.n2, lf_high, _, _, rfl, rfl, _, _, rfl, _, rfl, _, _, rfl, rfl, _, _, rfl, ?_, fun D6 hD6 => ?_⟩
    · rw [hE]
      exact ⟨by omega, by omega, by omega, by omega⟩
    rw [hE]
    refine lc_itF (G := fun _ => True) walk_range hD6 (fun i => (rowB (fun n => decide (n % (m : Int) ∈ us)) E1 i).map V.bl) rfl (fun i hi' => smallB (by rw [List.length_map, rowB_len]; omega)) (fun _ _ => trivial) ?_ ?_ ?_ ?_ ?_
    · rintro i x H7 H8 hi' eD s7 ⟨rfl, rfl⟩
      refine ⟨rfl, _, rfl, _, rfl, _, rfl, p, C, dx, _, _, rfl, s7 _ _ hp6, T.cl, T.n4, lf_modulus, _, _, rfl, rfl, mp', q2, _, _, _, rfl, rfl, SqL.of (s7 _ _ e26), ix_mod mp (by omega) g2 _, eD, s7, ?_⟩
      rw [rowB_succ, List.map_append]
      rfl
    · exact fun x H' Q Q' h q => h _ _ q
    · exact fun σ2 H2 Q1 Q2 h q => h _ _ q
    · exact fun σ2 H2 Q1 Q2 h q => monoX 4 σ2 H2 Q1 Q2 h q
    intro H7 eD7 s7
    have n47 : D4 ≠ D6 := ne_of_none e64 hD6
    refine ⟨D4, D6, _, _, rfl, rfl, s7 _ _ e64, eD7, ?_, _, rfl, ?_⟩
    · rw [List.length_map, List.length_map, List.length_append, rowB_len, rowB_len, rowB_len]
      exact Nat.le_of_lt (smallB (by omega))
    rw [← List.map_append, rowB_three (f := lotHas lo hi xs m us ds) (n := (high + 1 - low).toNat) (by omega) (fun _ => by omega) (fun _ => by omega)]
    · have sH : Same H H3 := s13
      have nD4 : H D4 = none := (s13.free hD4)
      refine k D4 _ nD4 (fun b o e => ?_) upd_same
      have bD : b ≠ D4 := ne_of_none e nD4
      rw [upd_ne bD]
      exact s7 _ _ (s36 _ _ bD (s13 _ _ e))
    · intro x x0 x1
      unfold lotHas
      rw [if_neg (by omega), if_pos (by omega)]
    · intro x x0 x1
      unfold lotHas; rw [if_neg (by omega), if_neg (by omega)]
    · intro x x0 x1
      unfold lotHas
      rw [if_pos (by omega)]
/-! ### _common_modulus -/
def spCM (K : PySem.W.Frag) : Sp := fun vs H Q E => ∃ (p q : Addr) (lo hi lo2 hi2 : Int) (m m2 : Nat) (xs us ds xs2 us2 ds2 : List Int), vs = [.ref p, .ref q] ∧ LotAt (He.ga K "Lot") H p lo hi xs m us ds ∧ LotAt (He.ga K "Lot") H q lo2 hi2 xs2 m2 us2 ds2 ∧ (m ≤ 10080 ∧ m2 ≤ 10080) ∧
  (Nat.lcm m m2 ≤ 10080 → Q (.int (Nat.lcm m m2 : Nat)) H) ∧ (10080 < Nat.lcm m m2 → ∀ dd H', Same H H' → H' dd = some (.xd [("most", .int 10080)]) → E (.ref (He.ga K "TooLong")) (some dd) H')
abbrev s_cm : Stmt := top 31
abbrev N_cm : List Str := ["one", "other", "modulus"]
theorem sc_cm : FnScope N_cm ["one", "other"] (defScope s_cm) := ⟨rfl, rfl, rfl, by decide +kernel, rfl, by decide +kernel, by decide +kernel⟩
theorem kp_cm (F : At K mg "_common_modulus" s_cm) (S : Lots P w K mg base) (gG : mg "lcm" = some (.builtin "math.lcm")) (mM : ∃ t, mg "MOST_MODULUS" = some (.int 10080 t)) : Keeps (CX P w) P w K mg base "_common_modulus" 3 ["one", "other"] (spCM K) := by
  refine keeps_ofX F sc_cm (fun _ _ _ _ _ _ us hl => match us, hl with | [_, _], _ => rfl) (fun vs H Q E h => ?_) (fun f cdv A outer s H vs Q E hr h => ?_)
  · obtain ⟨p, q, lo, hi, lo2, hi2, m, m2, xs, us, ds, xs2, us2, ds2, rfl, _⟩ := h
    rfl
  · obtain ⟨p, q, lo, hi, lo2, hi2, m, m2, xs, us, ds, xs2, us2, ds2, rfl, ⟨dx, a1, a2, a3, hp, h1, h2, h3⟩, ⟨dx', b1, b2, b3, hq, g1, g2, g3⟩, ⟨mm, mm2⟩, k1, k2⟩ := h
    obtain ⟨tM, mM⟩ := mM
    have T := S.t
    refine ⟨_, (pss_cons (ps_set (i := 2) sc_cm.nd rfl (by walk_at "lv") (pe_callBfun cr_lcm (by rfl) gG (pa_cons (pe_fld (pv 0) rfl) (pa_cons (pe_fld (pv 1) rfl) pa_nil))))
        (pss_cons (ps_if (pt_cmpR op_gt (pv 2) (pe_glob (v := .int 10080) (by rfl) mM ⟨_, rfl⟩) (nomark _)) (pss_one (ps_raise rfl (takes_of rfl rfl rfl rfl) (by exact pmk_tl S hr (by rfl) (pa_cons (pe_glob (v := .int 10080) (by rfl) mM ⟨_, rfl⟩) pa_nil)))) pss_nil)
        (pss_one (ps_ret (pv 2))))), ?_⟩
    refine ⟨_, rfl, p, _, dx, _, _, rfl, hp, T.cl, T.n4, lf_modulus, _, rfl, q, _, dx', _, _, rfl, hq, T.cl, T.n4, lf_modulus, _, _, rfl, by omega, by omega, ?_⟩
    rw [Int.natAbs_natCast, Int.natAbs_natCast]
    refine ⟨_, rfl, _, _, rfl, rfl, _, rfl, ite2 (fun z => ?_) (fun z => ?_)⟩
    · have z := of_decide_eq_true z
      exact mko_ok (K := K) (ys := [.int 10080]) (fun _ q => q) rfl (by show 1 ≤ 1000; decide) fun dd H' s2 ed => k2 (by omega) dd H' s2 ed
    · have z : ¬ (Nat.lcm m m2 : Int) > 10080 := fun y => z (decide_eq_true y)
      exact ⟨_, rfl, k1 (by omega)⟩
end
end My
set_option Elab.async false
set_option linter.all false
set_option maxRecDepth 100000
set_option maxHeartbeats 8000000
namespace My
open PySem PySem.Spec PyProof.Rows L2
local macro_rules | `(tactic| walk_at "lv") => `(tactic| first | exact Or.inl rfl | exact Or.inr rfl)
/-! ### _rests_together -/
/-- the couples (in the one, in the other) that are taken stand at tk -/
def TakenAt (K : PySem.W.Frag) (tk : Addr) (op : Bool → Bool → Bool) : Prop := ∃ ds : List PyData, (∀ H : Hp, Dp K H (.ref tk) (.tuple ds)) ∧ SeqAt.shaped (.tuple ds) = true ∧ ∀ a b : Bool, (ds.any fun z => PyData.eqv z (.tuple [.bool a, .bool b])) = op a b
theorem shp_two (a b : Bool) : SeqAt.shaped (.tuple [.bool a, .bool b]) = true := by cases a <;> cases b <;> decide +kernel
section
variable {P : Program} {w : World} {K : PySem.W.Frag} {mg : Str → Option Value} {base : Heap}
def spRT (K : PySem.W.Frag) : Sp := fun vs H Q _ => ∃ (M : Nat) (t1 t2 tk u1 u2 : Addr) (m1 m2 : Nat) (us1 us2 : List Int) (op : Bool → Bool → Bool), vs = [.int M, .ref t1, .ref t2, .ref tk] ∧ H t1 = some (.tup [.int m1, .ref u1]) ∧ H t2 = some (.tup [.int m2, .ref u2]) ∧ H u1 = some (.tup (us1.map V.int)) ∧ H u2 = some (.tup (us2.map V.int)) ∧ TakenAt K tk op ∧
  (0 < m1 ∧ m1 ≤ 10080) ∧ (0 < m2 ∧ m2 ≤ 10080) ∧ M ≤ 10080 ∧ (∀ r ∈ us1, 0 ≤ r ∧ r < m1) ∧ (∀ r ∈ us2, 0 ≤ r ∧ r < m2) ∧
  ∀ D H', H D = none → Same H H' → H' D = some (.lst ((fil (fun n => op (decide (n % (m1 : Int) ∈ us1)) (decide (n % (m2 : Int) ∈ us2))) 0 M).map V.int)) → Q (.ref D) H'
abbrev s_rt : Stmt := top 32
abbrev N_rt : List Str := ["modulus", "one", "other", "taken", "first", "second", "n"]
theorem sc_rt : FnScope N_rt ["modulus", "one", "other", "taken"] (defScope s_rt) := ⟨rfl, rfl, rfl, by decide +kernel, rfl, by decide +kernel, by decide +kernel⟩
theorem kp_rt (F : At K mg "_rests_together" s_rt) (N : Nb mg) (Gf : Keeps CX0 P w K mg base "_flags" 1 ["low", "high", "numbers"] spFlags) : Keeps CX0 P w K mg base "_rests_together" 2 ["modulus", "one", "other", "taken"] (spRT K) := by
  refine keeps_of F sc_rt (fun _ _ _ _ _ _ us hl => match us, hl with | [_, _, _, _], _ => rfl) (fun vs H Q E h => ?_) (fun f cdv A outer s H vs Q E hr h => ?_)
  · obtain ⟨M, t1, t2, tk, u1, u2, m1, m2, us1, us2, op, rfl, _⟩ := h
    rfl
  · obtain ⟨M, t1, t2, tk, u1, u2, m1, m2, us1, us2, op, rfl, ht1, ht2, hu1, hu2, ⟨ds, dk, dsh, dop⟩, ⟨m10, m11⟩, ⟨m20, m21⟩, Mm, r1, r2, k⟩ := h
    have hu65 : (A.deeper (envOfC "_rests_together" (defScope s_rt) s.heap.objs.size f cdv)).units + 65 < cLine := by have := hr.un; omega
    refine ⟨_, (pss_cons (ps_set (i := 4) sc_rt.nd rfl (by walk_at "lv") (pe_k Gf hr (by rfl) pass0 (pa_cons pe_int (pa_cons (pe_op op_sub (pe_ix ix_tup (pv 1) pe_int (fun _ _ => rfl)) pe_int) (pa_cons (pe_ix ix_tup (pv 1) pe_int (fun _ _ => rfl)) pa_nil)))))
        (pss_cons (ps_set (i := 5) sc_rt.nd rfl (by walk_at "lv") (pe_k Gf hr (by rfl) pass0 (pa_cons pe_int (pa_cons (pe_op op_sub (pe_ix ix_tup (pv 2) pe_int (fun _ _ => rfl)) pe_int) (pa_cons (pe_ix ix_tup (pv 2) pe_int (fun _ _ => rfl)) pa_nil)))))
        (pss_one (ps_ret (pe_lc (own := [("n", 6)]) (g := gName 6) rfl sc_rt.nd (pi_range1 (by rfl) N.range (pa_cons (pv 0) pa_nil)) (blkOk_by (N := N_rt) (sc := defScope s_rt) (by decide +kernel)) (fun _ _ _ _ _ => (pg_name (i := 6) sc_rt.nd rfl (by walk_at "lv"))) (fun _ _ _ _ _ => (pts_one (pt_cmpR (r := rInT K) (op_inT hu65) (pe_tup (pa_cons (pe_ix (r := rIxL K) ix_list (pv 4) (pe_op op_mod (pv 6) (pe_ix (r := rIxT K) ix_tup (pv 1) pe_int (fun _ _ => rfl))) (fun _ _ => rfl)) (pa_cons (pe_ix (r := rIxL K) ix_list (pv 5) (pe_op op_mod (pv 6) (pe_ix (r := rIxT K) ix_tup (pv 2) pe_int (fun _ _ => rfl))) (fun _ _ => rfl)) pa_nil))) (pv 3) (by rfl)))) (fun _ _ _ _ _ => (pv 6))))))), ?_⟩
    refine ⟨_, rfl, t1, _, _, _, rfl, rfl, SqT.of ht1, rfl, _, _, rfl, rfl, _, rfl, t1, _, _, _, rfl, rfl, SqT.of ht1, rfl, u1, us1, 0, _, rfl, .inr hu1, by omega, by omega, by omega, by omega, (fun n hn => by have := r1 n hn; omega), fun q1 bs1 H1 n1 s1 e1 l1 g1 => ?_⟩
    refine ⟨_, rfl, t2, _, _, _, rfl, rfl, SqT.of (s1 _ _ ht2), rfl, _, _, rfl, rfl, _, rfl, t2, _, _, _, rfl, rfl, SqT.of (s1 _ _ ht2), rfl, u2, us2, 0, _, rfl, .inr (s1 _ _ hu2), by omega, by omega, by omega, by omega, (fun n hn => by have := r2 n hn; omega), fun q2 bs2 H2 n2 s2 e2 l2 g2 => ?_⟩
    have s12 := s1.trans s2
    have e1 := s2 _ _ e1
    have p1 : (0 : Int) < (m1 : Int) := by omega
    have p2 : (0 : Int) < (m2 : Int) := by omega
    refine ⟨_, rfl, _, rfl, by omega, by omega, fun D hD => ?_⟩
    refine lc_it walk_range (fun i H3 => H3 D = some (.lst ((fil (fun n => op (decide (n % (m1 : Int) ∈ us1)) (decide (n % (m2 : Int) ∈ us2))) 0 i).map V.int)) ∧ Same H2 H3) ⟨upd_same, same_new (Same.refl H2) hD⟩ (fun i H3 _ h => trivial) ?_ ?_
    · rintro i v H3 H4 hi ⟨eD, s3⟩ ⟨rfl, rfl⟩
      have hi' : i < M := by omega
      refine ⟨rfl, _, rfl, _, rfl, _, rfl, t1, _, _, _, rfl, rfl, SqT.of (s3 _ _ (s12 _ _ ht1)), rfl, _, _, rfl, rfl, p1, q1, _, _, _, rfl, rfl, SqL.of (s3 _ _ e1), ix_mod m10 (by omega) g1 _, ?_⟩
      refine ⟨_, rfl, _, rfl, _, rfl, t2, _, _, _, rfl, rfl, SqT.of (s3 _ _ (s12 _ _ ht2)), rfl, _, _, rfl, rfl, p2, q2, _, _, _, rfl, rfl, SqL.of (s3 _ _ e2), ix_mod m20 (by omega) g2 _, (by show 2 ≤ sizeLine; decide), fun t ht => ?_⟩
      have nDt : D ≠ t := ne_of_none eD ht
      have s4 := same_new (o := .tup [V.bl (decide ((0 + (i : Int)) % (m1 : Int) ∈ us1)), V.bl (decide ((0 + (i : Int)) % (m2 : Int) ∈ us2))]) s3 ht
      refine ⟨_, rfl, _, ds, .tup (SqT.of upd_same) (.cons (.bl _) (.cons (.bl _) .nil)), dk _, shp_two _ _, dsh, _, rfl, ?_⟩
      rw [dop]
      cases hb : op (decide ((0 + (i : Int)) % (m1 : Int) ∈ us1)) (decide ((0 + (i : Int)) % (m2 : Int) ∈ us2)) with
      | false =>
        refine iteF ⟨?_, s4⟩
        rw [fil_neg (by rw [hb]; exact Bool.false_ne_true), upd_ne nDt]
        exact eD
      | true =>
        refine iteT ⟨_, rfl, _, by rw [upd_ne nDt]; exact eD, smallB (by rw [List.length_map]; exact Nat.le_trans (fil_len _ _ _) (by omega)), ?_, fun b o e => ?_⟩
        · rw [fil_pos hb, List.map_append]
          exact upd_same
        · rw [upd_ne (ne_of_none e hD)]
          exact s4 b o e
    · rintro H3 ⟨eD, s3⟩
      rw [show ((M : Int)).toNat = M by omega] at eD
      exact k D H3 (s12.free hD) (s12.trans s3) eD
end
end My
set_option Elab.async false
set_option linter.all false
set_option maxRecDepth 100000
set_option maxHeartbeats 8000000
namespace My
open PySem PySem.Spec PyProof.Rows L2
local macro_rules | `(tactic| walk_at "lv") => `(tactic| first | exact Or.inl rfl | exact Or.inr rfl)
/-! ### _put_together -/
theorem res_mod {op : Bool → Bool → Bool} {M m1 m2 : Nat} {us1 us2 : List Int} (hM : 0 < M) (d1 : m1 ∣ M) (d2 : m2 ∣ M) (x : Int) : decide (x % (M : Int) ∈ fil (fun n => op (decide (n % (m1 : Int) ∈ us1)) (decide (n % (m2 : Int) ∈ us2))) 0 M) = op (decide (x % (m1 : Int) ∈ us1)) (decide (x % (m2 : Int) ∈ us2)) := by
  have k0 := Int.emod_nonneg x (by omega : (M : Int) ≠ 0)
  have k1 := Int.emod_lt_of_pos x (by omega : (0 : Int) < (M : Int))
  have q1 : (x % (M : Int)) % (m1 : Int) = x % (m1 : Int) := Int.emod_emod_of_dvd x (Int.ofNat_dvd.mpr d1)
  have q2 : (x % (M : Int)) % (m2 : Int) = x % (m2 : Int) := Int.emod_emod_of_dvd x (Int.ofNat_dvd.mpr d2)
  cases e : op (decide (x % (m1 : Int) ∈ us1)) (decide (x % (m2 : Int) ∈ us2)) with
  | true => exact decide_eq_true (mem_fil.mpr ⟨⟨k0, by omega⟩, by rw [q1, q2, e]⟩)
  | false =>
    refine decide_eq_false fun z => ?_
    have := (mem_fil.mp z).2
    rw [q1, q2, e] at this
    cases this
theorem lotHas_eq (lo hi : Int) (xs : List Int) (m : Nat) (us ds : List Int) (x : Int) : lotHas lo hi xs m us ds x = if hi < x then decide (x % (m : Int) ∈ us) else if x < lo then decide (x % (m : Int) ∈ ds) else decide (x ∈ xs) := rfl
theorem put_has {op : Bool → Bool → Bool} {low high lo hi lo2 hi2 : Int} {m m2 M : Nat} {xs us ds xs2 us2 ds2 : List Int} (sz : lo ≤ hi + 1) (sz2 : lo2 ≤ hi2 + 1) (l1 : low ≤ lo) (l2 : low ≤ lo2) (h1 : hi ≤ high) (h2 : hi2 ≤ high) (hM : 0 < M) (d1 : m ∣ M) (d2 : m2 ∣ M) (x : Int) :
    lotHas low high (fil (fun n => op (lotHas lo hi xs m us ds n) (lotHas lo2 hi2 xs2 m2 us2 ds2 n)) low (high + 1 - low).toNat) M (fil (fun n => op (decide (n % (m : Int) ∈ us)) (decide (n % (m2 : Int) ∈ us2))) 0 M) (fil (fun n => op (decide (n % (m : Int) ∈ ds)) (decide (n % (m2 : Int) ∈ ds2))) 0 M) x =
      op (lotHas lo hi xs m us ds x) (lotHas lo2 hi2 xs2 m2 us2 ds2 x) := by
  refine (lotHas_eq _ _ _ _ _ _ _).trans ?_
  by_cases c1 : high < x
  · rw [if_pos c1, res_mod hM d1 d2]
    unfold lotHas; rw [if_pos (by omega), if_pos (by omega)]
  · rw [if_neg c1]
    by_cases c2 : x < low
    · rw [if_pos c2, res_mod hM d1 d2]
      unfold lotHas
      rw [if_neg (by omega), if_pos (by omega), if_neg (by omega), if_pos (by omega)]
    · rw [if_neg c2]
      cases e : op (lotHas lo hi xs m us ds x) (lotHas lo2 hi2 xs2 m2 us2 ds2 x) with
      | true => exact decide_eq_true (mem_fil.mpr ⟨by omega, e⟩)
      | false =>
        refine decide_eq_false fun z => ?_
        have := (mem_fil.mp z).2
        rw [e] at this
        cases this
section
variable {P : Program} {w : World} {K : PySem.W.Frag} {mg : Str → Option Value} {base : Heap}
theorem LotEnd.cong {T T' : Tl} {H : Hp} {Q : VK} {E : XK} (e1 : ∀ x, T.has x = T'.has x) (e2 : ∀ x, T.U x = T'.U x) (e3 : ∀ x, T.D x = T'.D x) (h : LotEnd K T H Q E) : LotEnd K T' H Q E := by
  unfold LotEnd insOf resOf at *
  rw [← funext e1, ← funext e2, ← funext e3]
  exact h
/-- what the couple's lots are asked -/
structure Two (K : PySem.W.Frag) (H : Hp) (p q : Addr) (lo hi lo2 hi2 : Int) (m m2 : Nat) (xs us ds xs2 us2 ds2 : List Int) : Prop where
  la : LotAt (He.ga K "Lot") H p lo hi xs m us ds
  lb : LotAt (He.ga K "Lot") H q lo2 hi2 xs2 m2 us2 ds2
  L : LotD lo hi xs m us ds
  L2 : LotD lo2 hi2 xs2 m2 us2 ds2
  z : -1000 ≤ lo ∧ hi ≤ 1000 ∧ -1000 ≤ lo2 ∧ hi2 ≤ 1000
theorem Two.same {H H' : Hp} {p q : Addr} {lo hi lo2 hi2 : Int} {m m2 : Nat} {xs us ds xs2 us2 ds2 : List Int} (s : Same H H') (h : Two K H p q lo hi lo2 hi2 m m2 xs us ds xs2 us2 ds2) : Two K H' p q lo hi lo2 hi2 m m2 xs us ds xs2 us2 ds2 := ⟨h.la.same s, h.lb.same s, h.L, h.L2, h.z⟩
/-- the end of a call that puts together -/
def PutEnd (K : PySem.W.Frag) (op : Bool → Bool → Bool) (lo hi lo2 hi2 : Int) (m m2 : Nat) (xs us ds xs2 us2 ds2 : List Int) (H : Hp) (Q : VK) (E : XK) : Prop :=
  (Nat.lcm m m2 ≤ 10080 → ∀ T : Tl, (∀ x, T.has x = op (lotHas lo hi xs m us ds x) (lotHas lo2 hi2 xs2 m2 us2 ds2 x)) → (∀ x, T.U x = op (decide (x % (m : Int) ∈ us)) (decide (x % (m2 : Int) ∈ us2))) → (∀ x, T.D x = op (decide (x % (m : Int) ∈ ds)) (decide (x % (m2 : Int) ∈ ds2))) → LotEnd K T H Q E) ∧
  (10080 < Nat.lcm m m2 → ∀ dd H', Same H H' → H' dd = some (.xd [("most", .int 10080)]) → E (.ref (He.ga K "TooLong")) (some dd) H')
def spPut (K : PySem.W.Frag) : Sp := fun vs H Q E => ∃ (p q tk : Addr) (lo hi lo2 hi2 : Int) (m m2 : Nat) (xs us ds xs2 us2 ds2 : List Int) (op : Bool → Bool → Bool), vs = [.ref p, .ref q, .ref tk] ∧ Two K H p q lo hi lo2 hi2 m m2 xs us ds xs2 us2 ds2 ∧ TakenAt K tk op ∧ PutEnd K op lo hi lo2 hi2 m m2 xs us ds xs2 us2 ds2 H Q E
abbrev s_put : Stmt := top 30
abbrev N_put : List Str := ["one", "other", "taken", "modulus", "low", "high", "core", "inside", "ups", "downs", "at", "told"]
theorem sc_put : FnScope N_put ["one", "other", "taken"] (defScope s_put) := ⟨rfl, rfl, rfl, by decide +kernel, rfl, by decide +kernel, by decide +kernel⟩
theorem kp_put (F : At K mg "_put_together" s_put) (T : LotTxt K mg (He.ga K "Lot")) (N : Nb mg) (nMax : mg "max" = none) (nZip : mg "zip" = none) (Gc : Keeps (CX P w) P w K mg base "_common_modulus" 3 ["one", "other"] (spCM K)) (Gf : Keeps CX0 P w K mg base "lot_flags" 2 ["lot", "low", "high"] (spLF (He.ga K "Lot")))
    (Gr : Keeps CX0 P w K mg base "_rests_together" 2 ["modulus", "one", "other", "taken"] (spRT K)) (Gl_ : Keeps (CX P w) P w K mg base "_lot_of" 3 ["low", "high", "inside", "modulus", "ups", "downs"] (spLotOf K)) :
    Keeps (CX P w) P w K mg base "_put_together" 4 ["one", "other", "taken"] (spPut K) := by
  refine keeps_ofX F sc_put (fun _ _ _ _ _ _ us hl => match us, hl with | [_, _, _], _ => rfl) (fun vs H Q E h => ?_) (fun f cdv A outer s H vs Q E hr h => ?_)
  · obtain ⟨p, q, tk, lo, hi, lo2, hi2, m, m2, xs, us, ds, xs2, us2, ds2, op, rfl, _⟩ := h
    rfl
  · obtain ⟨p, q, tk, lo, hi, lo2, hi2, m, m2, xs, us, ds, xs2, us2, ds2, op, rfl, W, tak, kT, kE⟩ := h
    have hu65 : (A.deeper (envOfC "_put_together" (defScope s_put) s.heap.objs.size f cdv)).units + 65 < cLine := by have := hr.un; omega
    have h2 : Room 2 (A.deeper (envOfC "_put_together" (defScope s_put) s.heap.objs.size f cdv)) := hr.mono (by decide)
    obtain ⟨dk, dkD, dsh, dop⟩ := id tak
    have L := W.L
    have L2 := W.L2
    have wz := W.z
    have s1 := L.sz
    have s2 := L2.sz
    refine ⟨_, (pss_cons (ps_set (i := 3) sc_put.nd rfl (by walk_at "lv") (pe_k Gc hr (by rfl) (passes_call (takes_of rfl rfl rfl rfl) (fun _ _ _ _ h => h)) (pa_cons (pv 0) (pa_cons (pv 1) pa_nil))))
        (pss_cons (ps_set (i := 4) sc_put.nd rfl (by walk_at "lv") (pe_callB (call_min2 rfl) (by rfl) N.min (by decide +kernel) (pa_cons (pe_fld (pv 0) rfl) (pa_cons (pe_fld (pv 1) rfl) pa_nil))))
        (pss_cons (ps_set (i := 5) sc_put.nd rfl (by walk_at "lv") (pe_callB (call_max2 rfl) (by rfl) nMax (by decide +kernel) (pa_cons (pe_fld (pv 0) rfl) (pa_cons (pe_fld (pv 1) rfl) pa_nil))))
        (pss_cons (ps_set (i := 6) sc_put.nd rfl (by walk_at "lv") (pe_listZip rfl (pa_cons (pe_k Gf h2 (by rfl) pass0 (pa_cons (pv 0) (pa_cons (pv 4) (pa_cons (pv 5) pa_nil)))) (pa_cons (pe_k Gf h2 (by rfl) pass0 (pa_cons (pv 1) (pa_cons (pv 4) (pa_cons (pv 5) pa_nil)))) pa_nil)) (by rfl) N.list (by rfl) nZip))
        (pss_cons (ps_setLc (i := 7) (own := [("at", 10), ("told", 11)]) (g := gTup K 2 (gCons (gName 10) (gCons (gName 11) gNil))) rfl sc_put.nd rfl rfl (sw_true rfl rfl rfl (by decide +kernel)) (pi_enum (by rfl) N.enumerate (pa_cons (pv 6) pa_nil)) (blkOk_by (N := N_put) (sc := defScope s_put) (by decide +kernel)) (fun _ _ _ _ _ => (pg_tup (by rfl) (pgs_cons (pg_name (i := 10) sc_put.nd rfl (by walk_at "lv")) (pgs_cons (pg_name (i := 11) sc_put.nd rfl (by walk_at "lv")) pgs_nil)))) (fun _ _ _ _ _ => (pts_one (pt_cmpR (r := rInT K) (op_inT hu65) (pv 11) (pv 2) (by rfl)))) (fun _ _ _ _ _ => (pe_op op_add (pv 4) (pv 10))))
        (pss_cons (ps_set (i := 8) sc_put.nd rfl (by walk_at "lv") (pe_k Gr h2 (by rfl) pass0 (pa_cons (pv 3) (pa_cons (pe_tup (pa_cons (pe_fld (pv 0) rfl) (pa_cons (pe_fld (pv 0) rfl) pa_nil))) (pa_cons (pe_tup (pa_cons (pe_fld (pv 1) rfl) (pa_cons (pe_fld (pv 1) rfl) pa_nil))) (pa_cons (pv 2) pa_nil))))))
        (pss_cons (ps_set (i := 9) sc_put.nd rfl (by walk_at "lv") (pe_k Gr h2 (by rfl) pass0 (pa_cons (pv 3) (pa_cons (pe_tup (pa_cons (pe_fld (pv 0) rfl) (pa_cons (pe_fld (pv 0) rfl) pa_nil))) (pa_cons (pe_tup (pa_cons (pe_fld (pv 1) rfl) (pa_cons (pe_fld (pv 1) rfl) pa_nil))) (pa_cons (pv 2) pa_nil))))))
        (pss_one (ps_ret (pe_k Gl_ hr (by rfl) (passes_call (takes_of rfl rfl rfl rfl) (fun _ _ _ _ h => h)) (pa_cons (pv 4) (pa_cons (pv 5) (pa_cons (pv 7) (pa_cons (pv 3) (pa_cons (pv 8) (pa_cons (pv 9) pa_nil)))))))))))))))), ?_⟩
    refine ⟨_, rfl, _, rfl, p, q, lo, hi, lo2, hi2, m, m2, xs, us, ds, xs2, us2, ds2, rfl, W.la, W.lb, ⟨L.m1, L2.m1⟩, fun hM => ?_, kE⟩
    obtain ⟨dx, a1, a2, a3, hp, hp1, hp2, hp3⟩ := id W.la
    obtain ⟨dx', c1, c2, c3, hq, hq1, hq2, hq3⟩ := id W.lb
    have d1 : m ∣ Nat.lcm m m2 := Nat.dvd_lcm_left _ _
    have d2 : m2 ∣ Nat.lcm m m2 := Nat.dvd_lcm_right _ _
    have M0 : 0 < Nat.lcm m m2 := Nat.lcm_pos L.pos L2.pos
    have kL := kT hM
    generalize Nat.lcm m m2 = M at *
    generalize hA : (if lo2 < lo then lo2 else lo) = low
    have vA : low ≤ lo ∧ low ≤ lo2 ∧ -1000 ≤ low := by split at hA <;> omega
    generalize hB : (if hi2 > hi then hi2 else hi) = high
    have vB : hi ≤ high ∧ hi2 ≤ high ∧ high ≤ 1000 := by split at hB <;> omega
    refine ⟨_, rfl, p, _, dx, _, _, rfl, hp, T.cl, T.n1, lf_low, _, rfl, q, _, dx', _, _, rfl, hq, T.cl, T.n1, lf_low, _, _, rfl, ?_⟩
    rw [hA]
    refine ⟨_, rfl, p, _, dx, _, _, rfl, hp, T.cl, T.n2, lf_high, _, rfl, q, _, dx', _, _, rfl, hq, T.cl, T.n2, lf_high, _, _, rfl, ?_⟩
    rw [hB]
    have rg : low ≤ high + 1 ∧ -100000 ≤ low ∧ high ≤ 100000 ∧ high - low < 50000 := by omega
    refine ⟨_, rfl, _, rfl, _, rfl, p, low, high, lo, hi, m, xs, us, ds, rfl, W.la, L, rg, fun f1 H1 n1 t1 e1 => ?_⟩
    refine ⟨_, rfl, _, rfl, _, rfl, q, low, high, lo2, hi2, m2, xs2, us2, ds2, rfl, W.lb.same t1, L2, rg, fun f2 H2 n2 t2 e2 => ?_⟩
    refine ⟨f1, f2, _, _, rfl, SqL.of (t2 _ _ e1), SqL.of e2, by rw [List.length_map, List.length_map, rowB_len, rowB_len], by rw [List.length_map, rowB_len]; exact Nat.le_of_lt (smallB (by omega)), fun H3 z ts t3 nz lts ez eT => ?_⟩
    have t13 := t1.trans (t2.trans t3)
    rw [List.length_map, rowB_len] at lts
    refine ⟨_, rfl, z, _, rfl, SqL.of ez, fun D hD => ?_⟩
    have pT : ∀ (i : Nat) (t : Addr), ts[i]? = some t → H3 t = some (.tup [V.bl (lotHas lo hi xs m us ds (low + (i : Int))), V.bl (lotHas lo2 hi2 xs2 m2 us2 ds2 (low + (i : Int)))]) := fun i t e => by
      have il : i < (high + 1 - low).toNat := by rw [← lts]; exact (List.getElem?_eq_some_iff.mp e).1
      have g : ∀ f : Int → Bool, ((rowB f low (high + 1 - low).toNat).map V.bl)[i]? = some (V.bl (f (low + (i : Int)))) := fun f => by
        unfold rowB
        rw [List.map_map, List.getElem?_map, List.getElem?_range il]
        rfl
      exact eT i t _ _ e (g _) (g _)
    refine lc_it walk_enum (fun i H4 => H4 D = some (.lst ((fil (fun n => op (lotHas lo hi xs m us ds n) (lotHas lo2 hi2 xs2 m2 us2 ds2 n)) low i).map V.int)) ∧ Same H3 H4) ⟨upd_same, same_new (Same.refl H3) hD⟩ (fun i H4 _ h => h.2.seq (SqL.of ez)) ?_ ?_
    · rintro i v H4 H5 hi' ⟨eD, s4⟩ ⟨Tn, u, y, rfl, nT, rfl, e3, e4⟩
      cases Option.some.inj e3
      obtain ⟨t, ht, rfl⟩ : ∃ t, ts[i]? = some t ∧ y = .ref t := by
        dsimp only at e4
        rw [List.getElem?_map] at e4
        cases e : ts[i]? with
        | none => rw [e] at e4; cases e4
        | some t => rw [e] at e4; exact ⟨t, rfl, (Option.some.inj e4).symm⟩
      have il : i < (high + 1 - low).toNat := by rw [← lts]; exact (List.getElem?_eq_some_iff.mp ht).1
      have s5 := same_new (o := .tup [V.int (i : Nat), V.ref t]) s4 nT
      have nDT : D ≠ Tn := ne_of_none eD nT
      refine ⟨Tn, _, rfl, SqT.of upd_same, rfl, _, _, rfl, _, _, rfl, rfl, ?_⟩
      refine ⟨rfl, _, rfl, _, rfl, _, dk, .tup (SqT.of (s5 _ _ (pT i t ht))) (.cons (.bl _) (.cons (.bl _) .nil)), dkD _, shp_two _ _, dsh, _, rfl, ?_⟩
      rw [dop]
      cases hb : op (lotHas lo hi xs m us ds (low + (i : Int))) (lotHas lo2 hi2 xs2 m2 us2 ds2 (low + (i : Int))) with
      | false =>
        refine iteF ⟨?_, s5⟩
        rw [fil_neg (by rw [hb]; exact Bool.false_ne_true), upd_ne nDT]
        exact eD
      | true =>
        refine iteT ⟨_, rfl, _, rfl, _, _, rfl, rfl, _, by rw [upd_ne nDT]; exact eD, smallB (by rw [List.length_map]; exact Nat.le_trans (fil_len _ _ _) (by omega)), ?_, fun b o e => ?_⟩
        · rw [fil_pos hb, List.map_append]
          exact upd_same
        · rw [upd_ne (ne_of_none e hD)]
          exact s5 b o e
    rintro H4 ⟨eD, s4⟩
    rw [List.length_map, lts] at eD
    have t4 := t13.trans s4
    have W4 := W.same t4
    refine ⟨_, rfl, _, rfl, p, _, dx, _, _, rfl, t4 _ _ hp, T.cl, T.n4, lf_modulus, _, rfl, p, _, dx, _, _, rfl, t4 _ _ hp, T.cl, T.n5, lf_ups, (by show 2 ≤ sizeLine; decide), fun v1 hv1 => ?_⟩
    have s5 := same_new (o := .tup [V.int m, V.ref a2]) t4 hv1
    refine ⟨_, rfl, q, _, dx', _, _, rfl, s5 _ _ hq, T.cl, T.n4, lf_modulus, _, rfl, q, _, dx', _, _, rfl, s5 _ _ hq, T.cl, T.n5, lf_ups, (by show 2 ≤ sizeLine; decide), fun v2 hv2 => ?_⟩
    have s6 := same_new (o := .tup [V.int m2, V.ref c2]) s5 hv2
    have nv : v1 ≠ v2 := ne_of_none upd_same hv2
    refine ⟨_, rfl, M, v1, v2, tk, a2, c2, m, m2, us, us2, op, rfl, by rw [upd_ne nv]; exact upd_same, upd_same, s6 _ _ hp2, s6 _ _ hq2, tak, ⟨L.pos, L.m1⟩, ⟨L2.pos, L2.m1⟩, by omega, L.u, L2.u, fun D2 H7 _ s7 eD2 => ?_⟩
    have eD7 : H7 D = _ := s7 _ _ ((same_new (o := .tup [V.int m2, V.ref c2]) (same_new (o := .tup [V.int m, V.ref a2]) (Same.refl H4) hv1) hv2) _ _ eD)
    have t7 := s6.trans s7
    refine ⟨_, rfl, _, rfl, p, _, dx, _, _, rfl, t7 _ _ hp, T.cl, T.n4, lf_modulus, _, rfl, p, _, dx, _, _, rfl, t7 _ _ hp, T.cl, T.n6, lf_downs, (by show 2 ≤ sizeLine; decide), fun v3 hv3 => ?_⟩
    have s8 := same_new (o := .tup [V.int m, V.ref a3]) t7 hv3
    refine ⟨_, rfl, q, _, dx', _, _, rfl, s8 _ _ hq, T.cl, T.n4, lf_modulus, _, rfl, q, _, dx', _, _, rfl, s8 _ _ hq, T.cl, T.n6, lf_downs, (by show 2 ≤ sizeLine; decide), fun v4 hv4 => ?_⟩
    have s9 := same_new (o := .tup [V.int m2, V.ref c3]) s8 hv4
    have s79 := same_new (o := .tup [V.int m2, V.ref c3]) (same_new (o := .tup [V.int m, V.ref a3]) (Same.refl H7) hv3) hv4
    have nv : v3 ≠ v4 := ne_of_none upd_same hv4
    refine ⟨_, rfl, M, v3, v4, tk, a3, c3, m, m2, ds, ds2, op, rfl, by rw [upd_ne nv]; exact upd_same, upd_same, s9 _ _ hp3, s9 _ _ hq3, tak, ⟨L.pos, L.m1⟩, ⟨L2.pos, L2.m1⟩, by omega, L.d, L2.d, fun D3 H10 _ s10 eD3 => ?_⟩
    have t10 := s9.trans s10
    have eDx := s10 _ _ (s79 _ _ eD7)
    have eD2x := s10 _ _ (s79 _ _ eD2)
    refine ⟨_, rfl, _, rfl, _, rfl, _, rfl, _, rfl, _, rfl, ?_⟩
    refine ⟨tlOf low (high + 1 - low).toNat (fil (fun n => op (lotHas lo hi xs m us ds n) (lotHas lo2 hi2 xs2 m2 us2 ds2 n)) low (high + 1 - low).toNat) M (fil (fun n => op (decide (n % (m : Int) ∈ us)) (decide (n % (m2 : Int) ∈ us2))) 0 M) (fil (fun n => op (decide (n % (m : Int) ∈ ds)) (decide (n % (m2 : Int) ∈ ds2))) 0 M), D, D2, D3, _, _, _, ?_, ?_, ?_, ?_, .inl eDx, .inl eD2x, .inl eD3, (kL _ ?_ ?_ ?_).same t10⟩
    · rw [tlOf_hi, tlOf_m, show low + ((high + 1 - low).toNat : Int) - 1 = high by omega]
      rfl
    · refine ⟨tlOf_ok M0, by rw [tlOf_m]; omega, by rw [tlOf_c]; omega, ?_⟩
      show -10 ^ 31 ≤ low ∧ low ≤ 10 ^ 31
      omega
    · rw [tlOf_c]
      omega
    · refine tlOf_told (fun x hx => ?_) (fun x hx => ?_) (fun x hx => ?_)
      · have := (mem_fil.mp hx).1
        omega
      · have := (mem_fil.mp hx).1
        omega
      · have := (mem_fil.mp hx).1
        omega
    · intro x
      rw [tlOf_has M0, show low + ((high + 1 - low).toNat : Int) - 1 = high by omega, put_has s1 s2 vA.1 vA.2.1 vB.1 vB.2.1 M0 d1 d2]
    · intro x
      rw [tlOf_U M0, res_mod M0 d1 d2]
    · intro x
      rw [tlOf_D M0, res_mod M0 d1 d2]
end
end My
set_option Elab.async false
set_option linter.all false
set_option maxRecDepth 100000
set_option maxHeartbeats 8000000
namespace My
open PySem PySem.Spec PyProof.Rows L2
local macro_rules | `(tactic| walk_at "lv") => `(tactic| first | exact Or.inl rfl | exact Or.inr rfl)
section
variable {P : Program} {w : World} {K : PySem.W.Frag} {mg : Str → Option Value} {base : Heap}
/-! ### either_lot, both_lot, less_lot -/
def spMix2 (K : PySem.W.Frag) (op : Bool → Bool → Bool) : Sp := fun vs H Q E => ∃ (p q : Addr) (lo hi lo2 hi2 : Int) (m m2 : Nat) (xs us ds xs2 us2 ds2 : List Int), vs = [.ref p, .ref q] ∧ Two K H p q lo hi lo2 hi2 m m2 xs us ds xs2 us2 ds2 ∧ PutEnd K op lo hi lo2 hi2 m m2 xs us ds xs2 us2 ds2 H Q E
abbrev N_pq : List Str := ["one", "other"]
abbrev s_either : Stmt := top 27
theorem sc_either : FnScope N_pq ["one", "other"] (defScope s_either) := ⟨rfl, rfl, rfl, by decide +kernel, rfl, by decide +kernel, by decide +kernel⟩
abbrev s_both : Stmt := top 28
theorem sc_both : FnScope N_pq ["one", "other"] (defScope s_both) := ⟨rfl, rfl, rfl, by decide +kernel, rfl, by decide +kernel, by decide +kernel⟩
abbrev s_less : Stmt := top 29
theorem sc_less : FnScope N_pq ["one", "other"] (defScope s_less) := ⟨rfl, rfl, rfl, by decide +kernel, rfl, by decide +kernel, by decide +kernel⟩
def opE (a b : Bool) : Bool := a || b
def opB (a b : Bool) : Bool := a && b
def opL (a b : Bool) : Bool := a && !b
theorem kp_either (F : At K mg "either_lot" s_either) (G : Keeps (CX P w) P w K mg base "_put_together" 4 ["one", "other", "taken"] (spPut K)) (tk : ∃ t, mg "IN_EITHER" = some (.ref t) ∧ TakenAt K t opE) : Keeps (CX P w) P w K mg base "either_lot" 5 ["one", "other"] (spMix2 K opE) := by
  refine keeps_ofX F sc_either (fun _ _ _ _ _ _ us hl => match us, hl with | [_, _], _ => rfl) (fun vs H Q E h => ?_) (fun f cdv A outer s H vs Q E hr h => ?_)
  · obtain ⟨p, q, lo, hi, lo2, hi2, m, m2, xs, us, ds, xs2, us2, ds2, rfl, _⟩ := h
    rfl
  · obtain ⟨p, q, lo, hi, lo2, hi2, m, m2, xs, us, ds, xs2, us2, ds2, rfl, W, k⟩ := h
    obtain ⟨t, mt, tt⟩ := tk
    exact ⟨_, (pss_one (ps_ret (pe_k G hr (by rfl) (passes_call (takes_of rfl rfl rfl rfl) (fun _ _ _ _ h => h)) (pa_cons (pv 0) (pa_cons (pv 1) (pa_cons (pe_glob (v := .ref t) (by rfl) mt rfl) pa_nil)))))), _, rfl, _, rfl, p, q, t, lo, hi, lo2, hi2, m, m2, xs, us, ds, xs2, us2, ds2, opE, rfl, W, tt, k⟩
theorem kp_both (F : At K mg "both_lot" s_both) (G : Keeps (CX P w) P w K mg base "_put_together" 4 ["one", "other", "taken"] (spPut K)) (tk : ∃ t, mg "IN_BOTH" = some (.ref t) ∧ TakenAt K t opB) : Keeps (CX P w) P w K mg base "both_lot" 5 ["one", "other"] (spMix2 K opB) := by
  refine keeps_ofX F sc_both (fun _ _ _ _ _ _ us hl => match us, hl with | [_, _], _ => rfl) (fun vs H Q E h => ?_) (fun f cdv A outer s H vs Q E hr h => ?_)
  · obtain ⟨p, q, lo, hi, lo2, hi2, m, m2, xs, us, ds, xs2, us2, ds2, rfl, _⟩ := h
    rfl
  · obtain ⟨p, q, lo, hi, lo2, hi2, m, m2, xs, us, ds, xs2, us2, ds2, rfl, W, k⟩ := h
    obtain ⟨t, mt, tt⟩ := tk
    exact ⟨_, (pss_one (ps_ret (pe_k G hr (by rfl) (passes_call (takes_of rfl rfl rfl rfl) (fun _ _ _ _ h => h)) (pa_cons (pv 0) (pa_cons (pv 1) (pa_cons (pe_glob (v := .ref t) (by rfl) mt rfl) pa_nil)))))), _, rfl, _, rfl, p, q, t, lo, hi, lo2, hi2, m, m2, xs, us, ds, xs2, us2, ds2, opB, rfl, W, tt, k⟩
theorem kp_less (F : At K mg "less_lot" s_less) (G : Keeps (CX P w) P w K mg base "_put_together" 4 ["one", "other", "taken"] (spPut K)) (tk : ∃ t, mg "IN_FIRST_ALONE" = some (.ref t) ∧ TakenAt K t opL) : Keeps (CX P w) P w K mg base "less_lot" 5 ["one", "other"] (spMix2 K opL) := by
  refine keeps_ofX F sc_less (fun _ _ _ _ _ _ us hl => match us, hl with | [_, _], _ => rfl) (fun vs H Q E h => ?_) (fun f cdv A outer s H vs Q E hr h => ?_)
  · obtain ⟨p, q, lo, hi, lo2, hi2, m, m2, xs, us, ds, xs2, us2, ds2, rfl, _⟩ := h
    rfl
  · obtain ⟨p, q, lo, hi, lo2, hi2, m, m2, xs, us, ds, xs2, us2, ds2, rfl, W, k⟩ := h
    obtain ⟨t, mt, tt⟩ := tk
    exact ⟨_, (pss_one (ps_ret (pe_k G hr (by rfl) (passes_call (takes_of rfl rfl rfl rfl) (fun _ _ _ _ h => h)) (pa_cons (pv 0) (pa_cons (pv 1) (pa_cons (pe_glob (v := .ref t) (by rfl) mt rfl) pa_nil)))))), _, rfl, _, rfl, p, q, t, lo, hi, lo2, hi2, m, m2, xs, us, ds, xs2, us2, ds2, opL, rfl, W, tt, k⟩
/-! ### least_by_size -/
/-- v is the least number by size that f takes, among those to R -/
def IsLeast (f : Int → Bool) (v : Int) : Prop := f v = true ∧ ∀ n, f n = true → v.natAbs < n.natAbs ∨ (v.natAbs = n.natAbs ∧ v ≤ n)
def spBS : Sp := fun vs H Q _ => ∃ (a : Addr) (f : Int → Bool) (R : Nat), vs = [.ref a] ∧ H a = some (.lst ((rowB f (-(R : Int)) (2 * R + 1)).map V.bl)) ∧ R ≤ 25000 ∧ ((∀ n : Int, n.natAbs ≤ R → f n = false) → Q .non H) ∧
  (∀ v : Int, v.natAbs ≤ R → f v = true → (∀ n : Int, n.natAbs ≤ R → f n = true → v.natAbs < n.natAbs ∨ (v.natAbs = n.natAbs ∧ v ≤ n)) → Q (.int v) H)
abbrev s_bs : Stmt := top 35
abbrev N_bs : List Str := ["flags", "middle", "size"]
theorem sc_bs : FnScope N_bs ["flags"] (defScope s_bs) := ⟨rfl, rfl, rfl, by decide +kernel, rfl, by decide +kernel, by decide +kernel⟩
theorem kp_bs (F : At K mg "least_by_size" s_bs) (N : Nb mg) : Keeps CX0 P w K mg base "least_by_size" 1 ["flags"] spBS := by
  refine keeps_of F sc_bs (fun _ _ _ _ _ _ us hl => match us, hl with | [_], _ => rfl) (fun vs H Q E h => ?_) (fun f cdv A outer s H vs Q E hr h => ?_)
  · obtain ⟨a, g, R, rfl, _⟩ := h
    rfl
  · obtain ⟨a, g, R, rfl, ha, hR, kn, ks⟩ := h
    refine ⟨_, (pss_cons (ps_set (i := 1) sc_bs.nd rfl (by walk_at "lv") (pe_op op_fdiv (pe_callB call_len_seq (by rfl) N.len (by decide +kernel) (pa_cons (pv 0) pa_nil)) pe_int))
        (pss_cons (ps_for PassesOwn.never rfl (pi_range1 (by rfl) N.range (pa_cons (pe_op op_add (pv 1) pe_int) pa_nil)) (pg_name (i := 2) sc_bs.nd rfl (by walk_at "lv")) (pss_cons (ps_if (pt_val (pe_ix ix_list (pv 0) (pe_op op_sub (pv 1) (pv 2)) (fun _ _ => rfl))) (pss_one (ps_ret (pe_un un_neg (pv 2)))) pss_nil) (pss_one (ps_if (pt_val (pe_ix ix_list (pv 0) (pe_op op_add (pv 1) (pv 2)) (fun _ _ => rfl))) (pss_one (ps_ret (pv 2))) pss_nil))))
        (pss_one (ps_ret pe_non)))), ?_⟩
    refine ⟨_, rfl, a, _, rfl, .inl (SqL.of ha), _, _, rfl, rfl, ⟨by decide, by decide⟩, ?_⟩
    rw [List.length_map, rowB_len]
    dsimp only
    rw [show (((2 * R + 1 : Nat) : Int) / 2) = (R : Int) by omega]
    refine ⟨_, rfl, _, _, rfl, rfl, _, rfl, by omega, by omega, ?_⟩
    have gt : ∀ x : Int, x.natAbs ≤ R → atI ((rowB g (-(R : Int)) (2 * R + 1)).map V.bl) ((R : Int) + x) = some (.bl (g x)) := fun x hx => by
      rw [blI_get (by omega) (by rw [rowB_len]; omega), rowB_get (by omega)]
      congr 3
      omega
    refine for_range (fun i σ H4 => ∃ y : Option V, σ = [some (V.ref a), some (V.int R), y] ∧ H4 = H ∧ ∀ n : Int, n.natAbs < i → g n = false) ⟨_, rfl, rfl, fun n hn => absurd hn (Nat.not_lt_zero _)⟩ ?_ ?_
    · rintro i σ H4 hi ⟨y, rfl, rfl, inv⟩
      have hi' : i < R + 1 := by omega
      rw [Int.zero_add]
      refine ⟨_, rfl, _, rfl, _, rfl, _, _, rfl, rfl, a, _, _, _, rfl, rfl, SqL.of ha, gt (-(i : Int)) (by omega), _, rfl, ?_⟩
      cases e1 : g (-(i : Int)) with
      | true =>
        refine iteT ⟨_, rfl, _, rfl, ks (-(i : Int)) (by omega) e1 fun n hn hg => ?_⟩
        rcases Nat.lt_or_ge n.natAbs i with q | q
        · rw [inv n q] at hg; cases hg
        · omega
      | false =>
        refine iteF ⟨_, rfl, _, rfl, _, rfl, _, _, rfl, rfl, a, _, _, _, rfl, rfl, SqL.of ha, gt (i : Int) (by omega), _, rfl, ?_⟩
        cases e2 : g (i : Int) with
        | true =>
          refine iteT ⟨_, rfl, ks (i : Int) (by omega) e2 fun n hn hg => ?_⟩
          rcases Nat.lt_or_ge n.natAbs i with q | q
          · rw [inv n q] at hg; cases hg
          · by_cases z : n = -(i : Int)
            · rw [z, e1] at hg; cases hg
            · omega
        | false =>
          refine iteF ⟨_, rfl, rfl, fun n hn => ?_⟩
          rcases Nat.lt_or_ge n.natAbs i with q | q
          · exact inv n q
          · rcases (show n = (i : Int) ∨ n = -(i : Int) by omega) with z | z
            · rw [z]; exact e2
            · rw [z]; exact e1
    · rintro σ H4 ⟨y, rfl, rfl, inv⟩
      exact kn fun n hn => inv n (by omega)
end
end My
set_option Elab.async false
set_option linter.all false
set_option maxRecDepth 100000
set_option maxHeartbeats 8000000
namespace My
open PySem PySem.Spec PyProof.Rows L2
local macro_rules | `(tactic| walk_at "lv") => `(tactic| first | exact Or.inl rfl | exact Or.inr rfl)
/-- beyond the ends a lot's numbers come round -/
theorem lot_round {lo hi : Int} {m L : Nat} {xs us ds : List Int} (sz : lo ≤ hi + 1) (d : m ∣ L) {x y : Int} (e : x % (L : Int) = y % (L : Int)) (h : (hi < x ∧ hi < y) ∨ (x < lo ∧ y < lo)) : lotHas lo hi xs m us ds x = lotHas lo hi xs m us ds y := by
  have e2 : x % (m : Int) = y % (m : Int) := by
    rw [← Int.emod_emod_of_dvd x (Int.ofNat_dvd.mpr d), ← Int.emod_emod_of_dvd y (Int.ofNat_dvd.mpr d), e]
  rw [lotHas_eq, lotHas_eq, e2]
  rcases h with h | h
  · rw [if_pos h.1, if_pos h.2]
  · rw [if_neg (by omega), if_pos h.1, if_neg (by omega), if_pos h.2]
/-- what some far number shows, a near one shows -/
theorem near_one {f : Int → Bool} {B : Int} {L : Nat} (hL : 0 < L) (hB : 0 ≤ B) (hr : ∀ x y : Int, x % (L : Int) = y % (L : Int) → ((B < x ∧ B < y) ∨ (x < -B ∧ y < -B)) → f x = f y) {n : Int} (hn : f n = true) : ∃ y : Int, -(B + L) ≤ y ∧ y ≤ B + L ∧ f y = true := by
  have L0 : (0 : Int) < (L : Int) := by omega
  by_cases c1 : B < n
  · have d1 := Int.emod_nonneg (n - B - 1) (by omega : (L : Int) ≠ 0)
    have d2 := Int.emod_lt_of_pos (n - B - 1) L0
    refine ⟨B + 1 + (n - B - 1) % (L : Int), by omega, by omega, ?_⟩
    rw [hr _ n ?_ (.inl ⟨by omega, c1⟩)]
    · exact hn
    · rw [Int.add_emod_emod]
      congr 1
      omega
  · by_cases c2 : n < -B
    · have d1 := Int.emod_nonneg (n + B) (by omega : (L : Int) ≠ 0)
      have d2 := Int.emod_lt_of_pos (n + B) L0
      refine ⟨(n + B) % (L : Int) - B - L, by omega, by omega, ?_⟩
      rw [hr _ n ?_ (.inr ⟨by omega, c2⟩)]
      · exact hn
      · rw [show (n + B) % (L : Int) - B - L = (-B + (n + B) % (L : Int)) - (L : Int) by omega, Int.sub_emod_right, Int.add_emod_emod]
        congr 1
        omega
    · exact ⟨n, by omega, by omega, hn⟩
section
variable {P : Program} {w : World} {K : PySem.W.Frag} {mg : Str → Option Value} {base : Heap}
/-! ### within -/
def WiRes (f : Int → Bool) (v : V) : Prop := (v = .non ∧ ∀ n, f n = false) ∨ ∃ a : Int, v = .int a ∧ IsLeast f a
theorem WiRes.unique {f g : Int → Bool} {v u : V} (e : ∀ n, f n = g n) (a : WiRes f v) (b : WiRes g u) : v = u := by
  have e : f = g := funext e
  subst e
  rcases a with ⟨rfl, a1⟩ | ⟨a, rfl, a1, a2⟩ <;> rcases b with ⟨rfl, b1⟩ | ⟨b, rfl, b1, b2⟩
  · rfl
  · rw [a1] at b1; cases b1
  · rw [b1] at a1; cases a1
  · have h1 := a2 b b1
    have h2 := b2 a a1
    have : a = b := by omega
    rw [this]
def spWi (K : PySem.W.Frag) : Sp := fun vs H Q E => ∃ (p q : Addr) (lo hi lo2 hi2 : Int) (m m2 : Nat) (xs us ds xs2 us2 ds2 : List Int), vs = [.ref p, .ref q] ∧ Two K H p q lo hi lo2 hi2 m m2 xs us ds xs2 us2 ds2 ∧
  (Nat.lcm m m2 ≤ 10080 → ∀ v H', Same H H' → WiRes (fun n => opL (lotHas lo hi xs m us ds n) (lotHas lo2 hi2 xs2 m2 us2 ds2 n)) v → Q v H') ∧
  (10080 < Nat.lcm m m2 → ∀ dd H', Same H H' → H' dd = some (.xd [("most", .int 10080)]) → E (.ref (He.ga K "TooLong")) (some dd) H')
abbrev s_wi : Stmt := top 34
abbrev N_wi : List Str := ["one", "other", "reach", "held", "missing", "end", "at", "told"]
theorem sc_wi : FnScope N_wi ["one", "other"] (defScope s_wi) := ⟨rfl, rfl, rfl, by decide +kernel, rfl, by decide +kernel, by decide +kernel⟩
theorem kp_wi (F : At K mg "within" s_wi) (T : LotTxt K mg (He.ga K "Lot")) (N : Nb mg) (nMax : mg "max" = none) (Gc : Keeps (CX P w) P w K mg base "_common_modulus" 3 ["one", "other"] (spCM K)) (Gf : Keeps CX0 P w K mg base "lot_flags" 2 ["lot", "low", "high"] (spLF (He.ga K "Lot")))
    (Gb : Keeps CX0 P w K mg base "least_by_size" 1 ["flags"] spBS) : Keeps (CX P w) P w K mg base "within" 4 ["one", "other"] (spWi K) := by
  refine keeps_ofX F sc_wi (fun _ _ _ _ _ _ us hl => match us, hl with | [_, _], _ => rfl) (fun vs H Q E h => ?_) (fun f cdv A outer s H vs Q E hr h => ?_)
  · obtain ⟨p, q, lo, hi, lo2, hi2, m, m2, xs, us, ds, xs2, us2, ds2, rfl, _⟩ := h
    rfl
  · obtain ⟨p, q, lo, hi, lo2, hi2, m, m2, xs, us, ds, xs2, us2, ds2, rfl, W, kT, kE⟩ := h
    have h2 : Room 2 (A.deeper (envOfC "within" (defScope s_wi) s.heap.objs.size f cdv)) := hr.mono (by decide)
    have h1 : Room 1 (A.deeper (envOfC "within" (defScope s_wi) s.heap.objs.size f cdv)) := hr.mono (by decide)
    have L := W.L
    have L2 := W.L2
    have wz := W.z
    have s1 := L.sz
    have s2 := L2.sz
    refine ⟨_, (pss_cons (ps_set (i := 2) sc_wi.nd rfl (by walk_at "lv") (pe_callB (cr_max (by rfl)) (by rfl) nMax (by decide +kernel) (pa_cons (pe_lc (own := [("end", 5)]) (g := gName 5) (tt := tYes) rfl sc_wi.nd (pi_tup (pe_tup (pa_cons (pe_fld (pv 0) rfl) (pa_cons (pe_fld (pv 0) rfl) (pa_cons (pe_fld (pv 1) rfl) (pa_cons (pe_fld (pv 1) rfl) pa_nil)))))) (blkOk_by (N := N_wi) (sc := defScope s_wi) (by decide +kernel)) (fun _ _ _ _ _ => (pg_name (i := 5) sc_wi.nd rfl (by walk_at "lv"))) (fun _ _ _ _ _ => pts_nil) (fun _ _ _ _ _ => (pe_callB call_abs (by rfl) N.abs boot_abs (pa_cons (pv 5) pa_nil)))) pa_nil)))
        (pss_cons (ps_aug (i := 2) sc_wi.nd rfl (by walk_at "lv") (pe_k Gc hr (by rfl) (passes_call (takes_of rfl rfl rfl rfl) (fun _ _ _ _ h => h)) (pa_cons (pv 0) (pa_cons (pv 1) pa_nil))) ip_add)
        (pss_cons (ps_set (i := 3) sc_wi.nd rfl (by walk_at "lv") (pe_k Gf h2 (by rfl) pass0 (pa_cons (pv 1) (pa_cons (pe_un un_neg (pv 2)) (pa_cons (pv 2) pa_nil)))))
        (pss_cons (ps_setLc (i := 4) (own := [("at", 6), ("told", 7)]) (g := gTup K 2 (gCons (gName 6) (gCons (gName 7) gNil))) (tt := tYes) rfl sc_wi.nd rfl rfl (sw_true rfl rfl rfl (by decide +kernel)) (pi_enum (by rfl) N.enumerate (pa_cons (pe_k Gf h2 (by rfl) pass0 (pa_cons (pv 0) (pa_cons (pe_un un_neg (pv 2)) (pa_cons (pv 2) pa_nil)))) pa_nil)) (blkOk_by (N := N_wi) (sc := defScope s_wi) (by decide +kernel)) (fun _ _ _ _ _ => (pg_tup (by rfl) (pgs_cons (pg_name (i := 6) sc_wi.nd rfl (by walk_at "lv")) (pgs_cons (pg_name (i := 7) sc_wi.nd rfl (by walk_at "lv")) pgs_nil)))) (fun _ _ _ _ _ => pts_nil) (fun _ _ _ _ _ => (pe_and (pv 7) (pe_one (pe_not (pe_ix (r := rIxL K) ix_list (pv 3) (pv 6) (fun _ _ => rfl)))))))
        (pss_one (ps_ret (pe_k Gb h1 (by rfl) pass0 (pa_cons (pv 4) pa_nil)))))))), ?_⟩
    obtain ⟨dx, a1, a2, a3, hp, hp1, hp2, hp3⟩ := id W.la
    obtain ⟨dx', c1, c2, c3, hq, hq1, hq2, hq3⟩ := id W.lb
    refine ⟨_, rfl, p, _, dx, _, _, rfl, hp, T.cl, T.n1, lf_low, _, rfl, p, _, dx, _, _, rfl, hp, T.cl, T.n2, lf_high, _, rfl, q, _, dx', _, _, rfl, hq, T.cl, T.n1, lf_low, _, rfl, q, _, dx', _, _, rfl, hq, T.cl, T.n2, lf_high, (by show 4 ≤ sizeLine; decide), fun t ht => ⟨t, rfl, ⟨_, SqT.of upd_same⟩, fun D hD => ?_⟩⟩
    have st := same_new (o := .tup [V.int lo, V.int hi, V.int lo2, V.int hi2]) (Same.refl H) ht
    have et : (upd H t (.tup [V.int lo, V.int hi, V.int lo2, V.int hi2])) t = some (.tup (([lo, hi, lo2, hi2] : List Int).map V.int)) := upd_same
    generalize upd H t (.tup [V.int lo, V.int hi, V.int lo2, V.int hi2]) = H1 at st et hD ⊢
    refine lc_it (walk_tup (K := K) (a := t) (xs := ([lo, hi, lo2, hi2] : List Int).map V.int)) (fun i H3 => H3 D = some (.lst (((([lo, hi, lo2, hi2] : List Int).map fun n => if n < 0 then -n else n).take i).map V.int)) ∧ Same H1 H3) ⟨upd_same, same_new (Same.refl H1) hD⟩ (fun i H3 _ h => SqT.of (h.2 _ _ et)) ?_ ?_
    · rintro i v H3 H4 hi' ⟨eD, s3⟩ ⟨rfl, e4⟩
      obtain ⟨n, hn, rfl⟩ := int_at e4
      have il : i < 4 := hi'
      refine ⟨rfl, _, rfl, _, rfl, _, eD, smallB (by rw [List.length_map, List.length_take]; omega), ?_, fun b o e => ?_⟩
      · rw [List.take_succ, List.getElem?_map, hn, List.map_append]
        exact upd_same
      · rw [upd_ne (ne_of_none e hD)]
        exact s3 b o e
    rintro H3 ⟨eD, s3⟩
    have eD : H3 D = some (.lst ((([lo, hi, lo2, hi2] : List Int).map fun n => if n < 0 then -n else n).map V.int)) := eD
    refine ⟨D, _, rfl, SqL.of eD, Nat.succ_pos _, fun B hB hBm => ?_⟩
    have hb : ∀ n ∈ ([lo, hi, lo2, hi2] : List Int), n ≤ B ∧ -n ≤ B := fun n hn => by
      have := hBm _ (List.mem_map.mpr ⟨n, hn, rfl⟩)
      split at this <;> omega
    have hB1 : 0 ≤ B ∧ B ≤ 1001 := by
      obtain ⟨n, hn, e⟩ := List.mem_map.mp hB
      have : n = lo ∨ n = hi ∨ n = lo2 ∨ n = hi2 := by simpa using hn
      split at e <;> omega
    have b1 := hb lo (by simp)
    have b2 := hb hi (by simp)
    have b3 := hb lo2 (by simp)
    have b4 := hb hi2 (by simp)
    have s03 := st.trans s3
    have W3 := W.same s03
    refine ⟨_, rfl, _, rfl, _, rfl, p, q, lo, hi, lo2, hi2, m, m2, xs, us, ds, xs2, us2, ds2, rfl, W3.la, W3.lb, ⟨L.m1, L2.m1⟩, fun hM => ?_, fun z dd H' s4 e => kE z dd H' (s03.trans s4) e⟩
    have d1 : m ∣ Nat.lcm m m2 := Nat.dvd_lcm_left _ _
    have d2 : m2 ∣ Nat.lcm m m2 := Nat.dvd_lcm_right _ _
    have M0 : 0 < Nat.lcm m m2 := Nat.lcm_pos L.pos L2.pos
    have kT2 := kT hM
    generalize Nat.lcm m m2 = M at *
    obtain ⟨R, hR⟩ := Int.eq_ofNat_of_zero_le (show 0 ≤ B + (M : Int) by omega)
    have rg : -(R : Int) ≤ (R : Int) + 1 ∧ -100000 ≤ -(R : Int) ∧ (R : Int) ≤ 100000 ∧ (R : Int) - -(R : Int) < 50000 := by omega
    refine ⟨_, _, rfl, rfl, ?_⟩
    dsimp only
    rw [hR]
    refine ⟨_, rfl, _, rfl, _, rfl, _, rfl, q, -(R : Int), R, lo2, hi2, m2, xs2, us2, ds2, rfl, W3.lb, L2, rg, fun f1 H4 n4 s4 e4 => ?_⟩
    have s04 := s03.trans s4
    refine ⟨_, rfl, _, rfl, _, rfl, _, rfl, p, -(R : Int), R, lo, hi, m, xs, us, ds, rfl, W3.la.same s4, L, rg, fun f2 H5 n5 s5 e5 => ⟨f2, _, rfl, SqL.of e5, fun D2 hD2 => ?_⟩⟩
    rw [show ((R : Int) + 1 - -(R : Int)).toNat = 2 * R + 1 by omega] at e4 e5
    have e4 := s5 _ _ e4
    refine lc_it walk_enum (fun i H6 => H6 D2 = some (.lst ((rowB (fun n => opL (lotHas lo hi xs m us ds n) (lotHas lo2 hi2 xs2 m2 us2 ds2 n)) (-(R : Int)) i).map V.bl)) ∧ Same H5 H6) ⟨upd_same, same_new (Same.refl H5) hD2⟩ (fun i H6 _ h => h.2.seq (SqL.of e5)) ?_ ?_
    · rintro i v H6 H7 hi' ⟨eD2, s6⟩ ⟨Tn, u, y, rfl, nT, rfl, e6, e7⟩
      cases Option.some.inj e6
      have il : i < 2 * R + 1 := by rw [List.length_map, rowB_len] at hi'; exact hi'
      have ey : y = V.bl (lotHas lo hi xs m us ds (-(R : Int) + (i : Int))) := by
        dsimp only at e7
        unfold rowB at e7
        rw [List.map_map, List.getElem?_map, List.getElem?_range il] at e7
        exact (Option.some.inj e7).symm
      subst ey
      have s7 := same_new (o := .tup [V.int (i : Nat), V.bl (lotHas lo hi xs m us ds (-(R : Int) + (i : Int)))]) s6 nT
      have nDT : D2 ≠ Tn := ne_of_none eD2 nT
      have eD7 : (upd H6 Tn (.tup [V.int (i : Nat), V.bl (lotHas lo hi xs m us ds (-(R : Int) + (i : Int)))])) D2 = some (.lst ((rowB (fun n => opL (lotHas lo hi xs m us ds n) (lotHas lo2 hi2 xs2 m2 us2 ds2 n)) (-(R : Int)) i).map V.bl)) := by rw [upd_ne nDT]; exact eD2
      refine ⟨Tn, _, rfl, SqT.of upd_same, rfl, _, _, rfl, _, _, rfl, rfl, ?_⟩
      have fin : ∀ b : Bool, b = opL (lotHas lo hi xs m us ds (-(R : Int) + (i : Int))) (lotHas lo2 hi2 xs2 m2 us2 ds2 (-(R : Int) + (i : Int))) → ∃ acc, (upd H6 Tn (.tup [V.int (i : Nat), V.bl (lotHas lo hi xs m us ds (-(R : Int) + (i : Int)))])) D2 = some (.lst acc) ∧ acc.length < sizeLine ∧ ((upd (upd H6 Tn (.tup [V.int (i : Nat), V.bl (lotHas lo hi xs m us ds (-(R : Int) + (i : Int)))])) D2 (.lst (acc ++ [V.bl b]))) D2 = some (.lst ((rowB (fun n => opL (lotHas lo hi xs m us ds n) (lotHas lo2 hi2 xs2 m2 us2 ds2 n)) (-(R : Int)) (i + 1)).map V.bl)) ∧ Same H5 (upd (upd H6 Tn (.tup [V.int (i : Nat), V.bl (lotHas lo hi xs m us ds (-(R : Int) + (i : Int)))])) D2 (.lst (acc ++ [V.bl b])))) := fun b hb => by
        refine ⟨_, eD7, smallB (by rw [List.length_map, rowB_len]; omega), ?_, fun c o e => ?_⟩
        · rw [rowB_succ, List.map_append, ← hb]
          exact upd_same
        · rw [upd_ne (ne_of_none e hD2)]
          exact s7 c o e
      refine ⟨rfl, _, rfl, _, rfl, ?_⟩
      cases hb : lotHas lo hi xs m us ds (-(R : Int) + (i : Int)) with
      | false =>
        rw [hb] at fin
        exact iteF (fin false rfl)
      | true =>
        rw [hb] at fin s7
        refine iteT ⟨_, rfl, _, rfl, f1, _, _, _, rfl, rfl, SqL.of (s7 _ _ e4), blI_get (i := (i : Int)) (by omega) (by rw [rowB_len]; omega), _, rfl, ?_⟩
        refine fin _ ?_
        rw [show ((i : Int)).toNat = i by omega, rowB_get il]
        rfl
    rintro H6 ⟨eD2, s6⟩
    rw [List.length_map, rowB_len] at eD2
    have s06 := (s04.trans s5).trans s6
    have per : ∀ x y : Int, x % (M : Int) = y % (M : Int) → ((B < x ∧ B < y) ∨ (x < -B ∧ y < -B)) → opL (lotHas lo hi xs m us ds x) (lotHas lo2 hi2 xs2 m2 us2 ds2 x) = opL (lotHas lo hi xs m us ds y) (lotHas lo2 hi2 xs2 m2 us2 ds2 y) := fun x y e h => by
      rw [lot_round s1 d1 e (by omega), lot_round s2 d2 e (by omega)]
    refine ⟨_, rfl, D2, _, R, rfl, eD2, by omega, fun h => ?_, fun v hv fv least => ?_⟩
    · refine kT2 _ H6 s06 (.inl ⟨rfl, fun n => ?_⟩)
      refine Bool.eq_false_iff.mpr fun z => ?_
      obtain ⟨y, y1, y2, y3⟩ := near_one (f := fun n => opL (lotHas lo hi xs m us ds n) (lotHas lo2 hi2 xs2 m2 us2 ds2 n)) M0 hB1.1 per z
      rw [h y (by omega)] at y3
      cases y3
    · refine kT2 _ H6 s06 (.inr ⟨v, rfl, fv, fun n hn => ?_⟩)
      by_cases c : n.natAbs ≤ R
      · exact least n c hn
      · omega
/-! ### lot_members -/
def spMem (C : Addr) : Sp := fun vs H Q _ => ∃ (p : Addr) (low high lo hi : Int) (m : Nat) (xs us ds : List Int), vs = [.ref p, .int low, .int high] ∧ LotAt C H p lo hi xs m us ds ∧ LotD lo hi xs m us ds ∧ (-1000 ≤ low ∧ high ≤ 1000) ∧
  ∀ a H', Same H H' → H' a = some (.tup ((fil (lotHas lo hi xs m us ds) low (high + 1 - low).toNat).map V.int)) → Q (.ref a) H'
abbrev s_mem : Stmt := top 36
abbrev N_mem : List Str := ["lot", "low", "high", "at"]
theorem sc_mem : FnScope N_mem ["lot", "low", "high"] (defScope s_mem) := ⟨rfl, rfl, rfl, by decide +kernel, rfl, by decide +kernel, by decide +kernel⟩
theorem fil_map {f : Int → Bool} {lo : Int} {n : Nat} : (res (rowB f lo n)).map (fun k => lo + k) = fil f lo n := by
  unfold res
  rw [rowB_len]
  have : ∀ i, i ≤ n → (fil (fun k => (rowB f lo n).getD k.toNat false) 0 i).map (fun k => lo + k) = fil f lo i := by
    intro i
    induction i with
    | zero => intro _; rfl
    | succ i ih =>
      intro h
      have e : (rowB f lo n).getD (0 + (i : Int)).toNat false = f (lo + (i : Int)) := by
        rw [show (0 + (i : Int)).toNat = i by omega, rowB_get (by omega)]
      rw [fil_succ, fil_succ, List.map_append, ih (by omega), e]
      cases f (lo + (i : Int)) with
      | true => rw [if_pos rfl, if_pos rfl, Int.zero_add]; rfl
      | false => rw [if_neg (by decide), if_neg (by decide)]; rfl
  exact this n (Nat.le_refl _)
theorem kp_mem {C : Addr} (F : At K mg "lot_members" s_mem) (N : Nb mg) (Gp : Keeps CX0 P w K mg base "_places_of" 1 ["flags"] spPlaces) (Gf : Keeps CX0 P w K mg base "lot_flags" 2 ["lot", "low", "high"] (spLF C)) : Keeps CX0 P w K mg base "lot_members" 3 ["lot", "low", "high"] (spMem C) := by
  refine keeps_of F sc_mem (fun _ _ _ _ _ _ us hl => match us, hl with | [_, _, _], _ => rfl) (fun vs H Q E h => ?_) (fun f cdv A outer s H vs Q E hr h => ?_)
  · obtain ⟨p, low, high, lo, hi, m, xs, us, ds, rfl, _⟩ := h
    rfl
  · obtain ⟨p, low, high, lo, hi, m, xs, us, ds, rfl, la, L, bb, k⟩ := h
    refine ⟨_, (pss_cons (ps_if (pt_cmpR op_gt (pv 1) (pv 2) (nomark _)) (pss_one (ps_ret (pe_tup pa_nil))) pss_nil)
        (pss_one (ps_ret (pe_callTy call_tuple_of (by rfl) N.tuple (by decide +kernel) (pa_cons (pe_lc (own := [("at", 3)]) (g := gName 3) (tt := tYes) rfl sc_mem.nd (pi_list (pe_k Gp (hr.mono (by decide)) (by rfl) pass0 (pa_cons (pe_k Gf hr (by rfl) pass0 (pa_cons (pv 0) (pa_cons (pv 1) (pa_cons (pv 2) pa_nil)))) pa_nil))) (blkOk_by (N := N_mem) (sc := defScope s_mem) (by decide +kernel)) (fun _ _ _ _ _ => (pg_name (i := 3) sc_mem.nd rfl (by walk_at "lv"))) (fun _ _ _ _ _ => pts_nil) (fun _ _ _ _ _ => (pe_op op_add (pv 1) (pv 3)))) pa_nil))))), ?_⟩
    refine ⟨_, rfl, _, rfl, _, _, rfl, rfl, _, rfl, ite2 (fun z => ?_) (fun z => ?_)⟩
    · have z : low > high := of_decide_eq_true z
      refine ⟨Nat.zero_le _, fun t ht => ?_⟩
      refine k t _ (same_new (Same.refl H) ht) ?_
      rw [show (high + 1 - low).toNat = 0 by omega]
      exact upd_same
    · have z : ¬ low > high := fun y => z (decide_eq_true y)
      refine ⟨_, rfl, _, rfl, _, rfl, p, low, high, lo, hi, m, xs, us, ds, rfl, la, L, by omega, fun a1 H1 n1 s1 e1 => ?_⟩
      dsimp only [tNil]
      refine ⟨a1, _, rfl, e1, by rw [rowB_len]; omega, fun a2 H2 n2 s2 e2 => ⟨a2, rfl, ⟨_, SqL.of e2⟩, fun D hD => ?_⟩⟩
      have s12 := s1.trans s2
      refine lc_it (walk_list (K := K) (a := a2) (xs := (res (rowB (lotHas lo hi xs m us ds) low (high + 1 - low).toNat)).map V.int)) (fun i H3 => H3 D = some (.lst ((((res (rowB (lotHas lo hi xs m us ds) low (high + 1 - low).toNat)).map fun k => low + k).take i).map V.int)) ∧ Same H2 H3) ⟨upd_same, same_new (Same.refl H2) hD⟩ (fun i H3 _ h => h.2.seq (SqL.of e2)) ?_ ?_
      · rintro i v H3 H4 hi' ⟨eD, s3⟩ ⟨rfl, e4⟩
        obtain ⟨n, hn, rfl⟩ := int_at e4
        have ll : (res (rowB (lotHas lo hi xs m us ds) low (high + 1 - low).toNat)).length ≤ (high + 1 - low).toNat := by
          have := fil_len (fun k => (rowB (lotHas lo hi xs m us ds) low (high + 1 - low).toNat).getD k.toNat false) 0 (rowB (lotHas lo hi xs m us ds) low (high + 1 - low).toNat).length
          rw [rowB_len] at this
          unfold res
          rw [rowB_len]
          exact this
        rw [List.length_map] at hi'
        refine ⟨rfl, _, rfl, _, rfl, _, _, rfl, rfl, _, eD, smallB (by rw [List.length_map, List.length_take]; omega), ?_, fun b o e => ?_⟩
        · rw [List.take_succ, List.getElem?_map, hn, List.map_append]
          exact upd_same
        · rw [upd_ne (ne_of_none e hD)]
          exact s3 b o e
      rintro H3 ⟨eD, s3⟩
      rw [fil_map, List.length_map, show (res (rowB (lotHas lo hi xs m us ds) low (high + 1 - low).toNat)).length = (fil (lotHas lo hi xs m us ds) low (high + 1 - low).toNat).length by rw [← fil_map, List.length_map], List.take_length] at eD
      refine ⟨D, _, rfl, .inl ⟨SqL.of eD, fun l hl => ?_⟩⟩
      exact k l _ (same_new (s12.trans s3) hl) upd_same
end
end My
set_option Elab.async false
set_option linter.all false
set_option maxRecDepth 100000
set_option maxHeartbeats 8000000
namespace My
open PySem PySem.Spec PyProof.Rows L2
local macro_rules | `(tactic| walk_at "lv") => `(tactic| first | exact Or.inl rfl | exact Or.inr rfl)
/-! ### _law_mixed -/
theorem size_lcm {m1 m2 : Nat} (h1 : 0 < m1) (h2 : 0 < m2) : ∃ v : Int, (fil (fun k => decide ((k * (m1 : Int)) % (m2 : Int) = 0)) 1 m2)[0]? = some v ∧ v * (m1 : Int) = (Nat.lcm m1 m2 : Nat) ∧ 1 ≤ v ∧ v ≤ m2 := by
  have L0 : 0 < Nat.lcm m1 m2 := Nat.lcm_pos h1 h2
  obtain ⟨k0, hk0⟩ := Nat.dvd_lcm_left m1 m2
  have k1 : 0 < k0 := by
    rcases Nat.eq_zero_or_pos k0 with q | q
    · rw [q] at hk0; omega
    · exact q
  have k2 : k0 ≤ m2 := by
    have := Nat.le_of_dvd (Nat.mul_pos h1 h2) (Nat.lcm_dvd (Nat.dvd_mul_right m1 m2) (Nat.dvd_mul_left m2 m1))
    rw [hk0] at this
    exact Nat.le_of_mul_le_mul_left this h1
  have P0 : decide (((k0 : Int) * (m1 : Int)) % (m2 : Int) = 0) = true := by
    have e : (k0 : Int) * (m1 : Int) = ((Nat.lcm m1 m2 : Nat) : Int) := by rw [hk0]; push_cast; exact Int.mul_comm _ _
    rw [e]
    refine decide_eq_true ?_
    have := Nat.mod_eq_zero_of_dvd (Nat.dvd_lcm_right m1 m2)
    exact_mod_cast this
  obtain ⟨v, e0, v1, v2, v3, v4⟩ := fil_first (P := fun k => decide ((k * (m1 : Int)) % (m2 : Int) = 0)) (lo := 1) (n := m2) ⟨(k0 : Int), by omega, by omega, P0⟩
  refine ⟨v, e0, ?_, by omega, by omega⟩
  have vk : v ≤ k0 := by
    rcases Int.lt_or_le (k0 : Int) v with q | q
    · have := v4 (k0 : Int) (by omega) q
      rw [P0] at this
      cases this
    · exact q
  obtain ⟨u, rfl⟩ := Int.eq_ofNat_of_zero_le (by omega : 0 ≤ v)
  have d : m2 ∣ u * m1 := by
    have := of_decide_eq_true v3
    exact Nat.dvd_of_mod_eq_zero (by exact_mod_cast this)
  have dl : Nat.lcm m1 m2 ∣ u * m1 := Nat.lcm_dvd (Nat.dvd_mul_left m1 u) d
  have le1 := Nat.le_of_dvd (Nat.mul_pos (by omega) h1) dl
  have le2 : u * m1 ≤ k0 * m1 := Nat.mul_le_mul_right m1 (by omega)
  have e : k0 * m1 = Nat.lcm m1 m2 := by rw [hk0, Nat.mul_comm]
  have : u * m1 = Nat.lcm m1 m2 := by omega
  exact_mod_cast this
def opOf (way : Int) : Bool → Bool → Bool := if way = 0 then opE else if way = 1 then opB else opL
theorem pick_op {way : Int} (h0 : 0 ≤ way) (h1 : way < 3) (a b : Bool) : atI [V.bl (a || b), V.bl (a && b), V.bl (a && !b)] way = some (.bl (opOf way a b)) := by
  have : way = 0 ∨ way = 1 ∨ way = 2 := by omega
  rcases this with rfl | rfl | rfl
  · rfl
  · rfl
  · rfl
structure Mixed (T1 T2 : Tl) (op : Bool → Bool → Bool) (T : Tl) : Prop where
  ok : T.Ok
  h : ∀ x, T.has x = op (T1.has x) (T2.has x)
  u : ∀ x, T.U x = op (T1.U x) (T2.U x)
  d : ∀ x, T.D x = op (T1.D x) (T2.D x)
  len : T.us.length = Nat.lcm T1.us.length T2.us.length
  lo : T.lo ≤ T1.lo ∧ T.lo ≤ T2.lo ∧ (T.lo = T1.lo ∨ T.lo = T2.lo)
  hi : T1.hi ≤ T.hi ∧ T2.hi ≤ T.hi ∧ (T.hi = T1.hi ∨ T.hi = T2.hi)
/-- the telling that is made -/
def gUp (T1 T2 : Tl) (op : Bool → Bool → Bool) (high : Int) (M : Nat) (k : Int) : Bool := op (T1.has (high + 1 + (k - high - 1) % (M : Int))) (T2.has (high + 1 + (k - high - 1) % (M : Int)))
def gDn (T1 T2 : Tl) (op : Bool → Bool → Bool) (low : Int) (M : Nat) (k : Int) : Bool := op (T1.has (low - M + (k - low) % (M : Int))) (T2.has (low - M + (k - low) % (M : Int)))
def gIn (T1 T2 : Tl) (op : Bool → Bool → Bool) (n : Int) : Bool := op (T1.has n) (T2.has n)
def mixT (T1 T2 : Tl) (op : Bool → Bool → Bool) (low high : Int) (M : Nat) : Tl := ⟨low, rowB (gIn T1 T2 op) low (high - low + 1).toNat, rowB (gUp T1 T2 op high M) 0 M, rowB (gDn T1 T2 op low M) 0 M⟩
theorem cyc_row {f : Int → Bool} {M : Nat} (hM : 0 < M) (x : Int) : cyc (rowB f 0 M) x = f (x % (M : Int)) := by
  have k0 := Int.emod_nonneg x (by omega : (M : Int) ≠ 0)
  have k1 := Int.emod_lt_of_pos x (by omega : (0 : Int) < (M : Int))
  unfold cyc
  rw [rowB_len, rowB_get (by omega)]
  congr 1
  omega
theorem mix_mixed {T1 T2 : Tl} {op : Bool → Bool → Bool} {low high : Int} {M : Nat} (hM : M = Nat.lcm T1.us.length T2.us.length) (o1 : T1.Ok) (o2 : T2.Ok) (l : low ≤ T1.lo ∧ low ≤ T2.lo ∧ (low = T1.lo ∨ low = T2.lo)) (h : T1.hi ≤ high ∧ T2.hi ≤ high ∧ (high = T1.hi ∨ high = T2.hi)) : Mixed T1 T2 op (mixT T1 T2 op low high M) := by
  have M0 : 0 < M := by rw [hM]; exact Nat.lcm_pos o1.pos o2.pos
  have d1 : T1.us.length ∣ M := by rw [hM]; exact Nat.dvd_lcm_left _ _
  have d2 : T2.us.length ∣ M := by rw [hM]; exact Nat.dvd_lcm_right _ _
  have e1 : T1.hi = T1.lo + T1.cs.length - 1 := rfl
  have e2 : T2.hi = T2.lo + T2.cs.length - 1 := rfl
  have M0' : (0 : Int) < (M : Int) := by omega
  have cg : ∀ {d : Nat} {f : Int → Bool}, Per f d → d ∣ M → ∀ {x y : Int}, x % (M : Int) = y % (M : Int) → f x = f y := fun hp hd x y e => hp.cong (by rw [← Int.emod_emod_of_dvd x (Int.ofNat_dvd.mpr hd), ← Int.emod_emod_of_dvd y (Int.ofNat_dvd.mpr hd), e])
  have hhi : (mixT T1 T2 op low high M).hi = high := by
    show low + ((rowB (gIn T1 T2 op) low (high - low + 1).toNat).length : Int) - 1 = high
    rw [rowB_len]
    omega
  have hU : ∀ x, (mixT T1 T2 op low high M).U x = op (T1.U x) (T2.U x) := fun x => by
    show cyc (rowB (gUp T1 T2 op high M) 0 M) x = _
    rw [cyc_row M0]
    unfold gUp
    have q0 := Int.emod_nonneg (x % (M : Int) - high - 1) (by omega : (M : Int) ≠ 0)
    have ey : (high + 1 + (x % (M : Int) - high - 1) % (M : Int)) % (M : Int) = x % (M : Int) := by
      rw [Int.add_emod_emod, show high + 1 + (x % (M : Int) - high - 1) = x % (M : Int) by omega, Int.emod_emod]
    generalize hy : (high + 1 + (x % (M : Int) - high - 1) % (M : Int)) = y at *
    rw [Tl.above (T := T1) (by omega), Tl.above (T := T2) (by omega), cg o1.pu d1 ey, cg o2.pu d2 ey]
  have hD : ∀ x, (mixT T1 T2 op low high M).D x = op (T1.D x) (T2.D x) := fun x => by
    show cyc (rowB (gDn T1 T2 op low M) 0 M) x = _
    rw [cyc_row M0]
    unfold gDn
    have q1 := Int.emod_lt_of_pos (x % (M : Int) - low) M0'
    have ey : (low - M + (x % (M : Int) - low) % (M : Int)) % (M : Int) = x % (M : Int) := by
      rw [Int.add_emod_emod, show low - M + (x % (M : Int) - low) = x % (M : Int) - M by omega, Int.sub_emod_right, Int.emod_emod]
    generalize hy : (low - M + (x % (M : Int) - low) % (M : Int)) = y at *
    rw [Tl.below (T := T1) (by omega), Tl.below (T := T2) (by omega), cg o1.pd d1 ey, cg o2.pd d2 ey]
  refine ⟨⟨?_, ?_⟩, fun x => ?_, hU, hD, rowB_len.trans hM, l, by rw [hhi]; exact h⟩
  · show (rowB (gDn T1 T2 op low M) 0 M).length = (rowB (gUp T1 T2 op high M) 0 M).length
    rw [rowB_len, rowB_len]
  · show 0 < (rowB (gUp T1 T2 op high M) 0 M).length
    rw [rowB_len]
    exact M0
  · rcases Int.lt_or_le x low with q | q
    · rw [Tl.below (T := mixT T1 T2 op low high M) (by exact q), hD, Tl.below (T := T1) (by omega), Tl.below (T := T2) (by omega)]
    · rcases Int.lt_or_le high x with q2 | q2
      · rw [Tl.above (by rw [hhi]; exact q2), hU, Tl.above (T := T1) (by omega), Tl.above (T := T2) (by omega)]
      · rw [Tl.core (by exact q) (by rw [hhi]; exact q2)]
        show (rowB (gIn T1 T2 op) low (high - low + 1).toNat).getD (x - low).toNat false = _
        rw [rowB_get (by omega), show low + ((x - low).toNat : Int) = x by omega]
        rfl
def stF (low high : Int) (M : Nat) (i : Nat) : Int := if i = 0 then low else if i = 1 then high + 1 else low - M
def mnF (low high : Int) (M : Nat) (i : Nat) : Nat := if i = 0 then (high - low + 1).toNat else M
theorem it3 {H : Hp} {ta tb tc : Addr} {low high : Int} {M : Nat} (h : low ≤ high + 1) (ha : H ta = some (.tup [.int low, .int (high - low + 1)])) (hb : H tb = some (.tup [.int (high + 1), .int M])) (hc : H tc = some (.tup [.int (low - M), .int M])) {i : Nat} {v : V} (e : ([.ref ta, .ref tb, .ref tc] : List V)[i]? = some v) : ∃ t, v = .ref t ∧ H t = some (.tup [.int (stF low high M i), .int (mnF low high M i)]) := by
  match i, e with
  | 0, e =>
    cases e
    refine ⟨ta, rfl, ?_⟩
    rw [ha]
    show _ = some (HO.tup [V.int low, V.int (((high - low + 1).toNat : Nat) : Int)])
    rw [show (((high - low + 1).toNat : Nat) : Int) = high - low + 1 by omega]
  | 1, e =>
    cases e
    exact ⟨tb, rfl, hb⟩
  | 2, e =>
    cases e
    exact ⟨tc, rfl, hc⟩
  | n + 3, e => cases e
/-- i rows of flags stand in the list at R -/
def RowsAt (H : Hp) (R : Addr) (g : Int → Bool) (st : Nat → Int) (mn : Nat → Nat) (i : Nat) : Prop := ∃ rs : List Addr, rs.length = i ∧ R ∉ rs ∧ H R = some (.lst (rs.map V.ref)) ∧ ∀ (j : Nat) (r : Addr), rs[j]? = some r → H r = some (.lst ((rowB g (st j) (mn j)).map V.bl))
section
variable {P : Program} {w : World} {K : PySem.W.Frag} {mg : Str → Option Value} {base : Heap}
def spMx : Sp := fun vs H Q _ => ∃ (t1 c1 u1 d1 t2 c2 u2 d2 : Addr) (T1 T2 : Tl) (way : Int), vs = [.ref t1, .ref t2, .int way] ∧ (0 ≤ way ∧ way < 3) ∧ TellAt H t1 T1 c1 u1 d1 ∧ TellAt H t2 T2 c2 u2 d2 ∧ T1.Ok ∧ T2.Ok ∧ (T1.us.length ≤ 150 ∧ T2.us.length ≤ 150) ∧ (T1.cs.length ≤ 150 ∧ T2.cs.length ≤ 150) ∧
  (-100 ≤ T1.lo ∧ T1.lo ≤ 100 ∧ -100 ≤ T2.lo ∧ T2.lo ≤ 100) ∧ ∀ t c u d T H', Same H H' → TellAt H' t T c u d → Mixed T1 T2 (opOf way) T → Q (.ref t) H'
abbrev s_mx : Stmt := top 50
abbrev N_mx : List Str := ["_law_one", "_law_other", "_law_way", "_law_size", "_law_low", "_law_high", "_law_rows", "_law_start", "_law_many", "_law_row", "_law_k", "_law_a", "_law_b", "_law_ups", "_law_downs"]
theorem sc_mx : FnScope N_mx ["_law_one", "_law_other", "_law_way"] (defScope s_mx) := ⟨rfl, rfl, rfl, by decide +kernel, rfl, by decide +kernel, by decide +kernel⟩
theorem kp_mx (F : At K mg "_law_mixed" s_mx) (N : Nb mg) (nMax : mg "max" = none) (Gh : Keeps CX0 P w K mg base "_law_has" 1 ["_law_telling", "_law_number"] spHas) : Keeps CX0 P w K mg base "_law_mixed" 2 ["_law_one", "_law_other", "_law_way"] spMx := by
  refine keeps_of F sc_mx (fun _ _ _ _ _ _ us hl => match us, hl with | [_, _, _], _ => rfl) (fun vs H Q E h => ?_) (fun f cdv A outer s H vs Q E hr h => ?_)
  · obtain ⟨t1, c1, u1, d1, t2, c2, u2, d2, T1, T2, way, rfl, _⟩ := h
    rfl
  · obtain ⟨t1, c1, u1, d1, t2, c2, u2, d2, T1, T2, way, rfl, ⟨w0, w1⟩, A1, A2, o1, o2, ⟨lu1, lu2⟩, ⟨lc1, lc2⟩, lz, k⟩ := h
    have e1 : T1.hi = T1.lo + T1.cs.length - 1 := rfl
    have e2 : T2.hi = T2.lo + T2.cs.length - 1 := rfl
    have p1 := o1.pos
    have p2 := o2.pos
    refine ⟨_, (pss_cons (ps_set (i := 3) sc_mx.nd rfl (by walk_at "lv") (pe_ix ix_list (pe_lc (own := [("_law_k", 10)]) (g := gName 10) rfl sc_mx.nd (pi_range2 (by rfl) N.range (pa_cons pe_int (pa_cons (pe_op op_add (pe_ix ix_list (pv 1) pe_int (fun _ _ => rfl)) pe_int) pa_nil))) (blkOk_by (N := N_mx) (sc := defScope s_mx) (by decide +kernel)) (fun _ _ _ _ _ => (pg_name (i := 10) sc_mx.nd rfl (by walk_at "lv"))) (fun _ _ _ _ _ => (pts_one (pt_cmpR op_eq (pe_op op_mod (pe_callTy call_int1 (by rfl) N.int boot_int (pa_cons (pe_op op_mul (pv 10) (pe_ix (r := rIxL K) ix_list (pv 0) pe_int (fun _ _ => rfl))) pa_nil)) (pe_ix (r := rIxL K) ix_list (pv 1) pe_int (fun _ _ => rfl))) pe_int (nomark _)))) (fun _ _ _ _ _ => (pe_op op_mul (pv 10) (pe_ix (r := rIxL K) ix_list (pv 0) pe_int (fun _ _ => rfl))))) pe_int (fun _ _ => rfl)))
        (pss_cons (ps_set (i := 4) sc_mx.nd rfl (by walk_at "lv") (pe_callB (call_min2 rfl) (by rfl) N.min (by decide +kernel) (pa_cons (pe_ix ix_list (pv 0) pe_int (fun _ _ => rfl)) (pa_cons (pe_ix ix_list (pv 1) pe_int (fun _ _ => rfl)) pa_nil))))
        (pss_cons (ps_set (i := 5) sc_mx.nd rfl (by walk_at "lv") (pe_callB (call_max2 rfl) (by rfl) nMax (by decide +kernel) (pa_cons (pe_ix ix_list (pv 0) pe_int (fun _ _ => rfl)) (pa_cons (pe_ix ix_list (pv 1) pe_int (fun _ _ => rfl)) pa_nil))))
        (pss_cons (ps_set (i := 6) sc_mx.nd rfl (by walk_at "lv") (pe_lst pa_nil))
        (pss_cons (ps_for PassesOwn.never rfl (pi_tup (pe_tup (pa_cons (pe_tup (pa_cons (pv 4) (pa_cons (pe_op op_add (pe_op op_sub (pv 5) (pv 4)) pe_int) pa_nil))) (pa_cons (pe_tup (pa_cons (pe_op op_add (pv 5) pe_int) (pa_cons (pv 3) pa_nil))) (pa_cons (pe_tup (pa_cons (pe_op op_sub (pv 4) (pv 3)) (pa_cons (pv 3) pa_nil))) pa_nil))))) (pg_tup (by rfl) (pgs_cons (pg_name (i := 7) sc_mx.nd rfl (by walk_at "lv")) (pgs_cons (pg_name (i := 8) sc_mx.nd rfl (by walk_at "lv")) pgs_nil))) (pss_cons (ps_set (i := 9) sc_mx.nd rfl (by walk_at "lv") (pe_lst pa_nil)) (pss_cons (ps_for PassesOwn.never rfl (pi_range1 (by rfl) N.range (pa_cons (pv 8) pa_nil)) (pg_name (i := 10) sc_mx.nd rfl (by walk_at "lv")) (pss_cons (ps_set (i := 11) sc_mx.nd rfl (by walk_at "lv") (pe_k Gh hr (by rfl) pass0 (pa_cons (pv 0) (pa_cons (pe_op op_add (pv 7) (pv 10)) pa_nil)))) (pss_cons (ps_set (i := 12) sc_mx.nd rfl (by walk_at "lv") (pe_k Gh hr (by rfl) pass0 (pa_cons (pv 1) (pa_cons (pe_op op_add (pv 7) (pv 10)) pa_nil)))) (pss_one (ps_expr (pe_bm PySem.F.plainAttrs_list PySem.F.slot_list_append PySem.F.type_list_append mt_append (pv 9) (pa_cons (pe_ix ix_tup (pe_tup (pa_cons (pe_or (pv 11) (pe_one (pv 12))) (pa_cons (pe_and (pv 11) (pe_one (pv 12))) (pa_cons (pe_and (pv 11) (pe_one (pe_not (pv 12)))) pa_nil)))) (pv 2) (fun _ _ => rfl)) pa_nil))))))) (pss_one (ps_expr (pe_bm PySem.F.plainAttrs_list PySem.F.slot_list_append PySem.F.type_list_append mt_append (pv 6) (pa_cons (pv 9) pa_nil)))))))
        (pss_cons (ps_setLc (i := 13) (own := [("_law_k", 10)]) (g := gName 10) (tt := tYes) rfl sc_mx.nd rfl rfl (sw_true rfl rfl rfl (by decide +kernel)) (pi_range1 (by rfl) N.range (pa_cons (pv 3) pa_nil)) (blkOk_by (N := N_mx) (sc := defScope s_mx) (by decide +kernel)) (fun _ _ _ _ _ => (pg_name (i := 10) sc_mx.nd rfl (by walk_at "lv"))) (fun _ _ _ _ _ => pts_nil) (fun _ _ _ _ _ => (pe_ix (r := rIxL K) ix_list (pe_ix (r := rIxL K) ix_list (pv 6) pe_int (fun _ _ => rfl)) (pe_op op_mod (pe_callTy call_int1 (by rfl) N.int boot_int (pa_cons (pe_op op_sub (pe_op op_sub (pv 10) (pv 5)) pe_int) pa_nil)) (pv 3)) (fun _ _ => rfl))))
        (pss_cons (ps_setLc (i := 14) (own := [("_law_k", 10)]) (g := gName 10) (tt := tYes) rfl sc_mx.nd rfl rfl (sw_true rfl rfl rfl (by decide +kernel)) (pi_range1 (by rfl) N.range (pa_cons (pv 3) pa_nil)) (blkOk_by (N := N_mx) (sc := defScope s_mx) (by decide +kernel)) (fun _ _ _ _ _ => (pg_name (i := 10) sc_mx.nd rfl (by walk_at "lv"))) (fun _ _ _ _ _ => pts_nil) (fun _ _ _ _ _ => (pe_ix (r := rIxL K) ix_list (pe_ix (r := rIxL K) ix_list (pv 6) pe_int (fun _ _ => rfl)) (pe_op op_mod (pe_callTy call_int1 (by rfl) N.int boot_int (pa_cons (pe_op op_sub (pv 10) (pv 4)) pa_nil)) (pv 3)) (fun _ _ => rfl))))
        (pss_one (ps_ret (pe_lst (pa_cons (pv 4) (pa_cons (pv 5) (pa_cons (pe_ix ix_list (pv 6) pe_int (fun _ _ => rfl)) (pa_cons (pv 3) (pa_cons (pv 13) (pa_cons (pv 14) pa_nil)))))))))))))))), ?_⟩
    have m2' : (0 : Int) < (T2.us.length : Int) := by omega
    refine ⟨_, rfl, t2, _, _, _, rfl, rfl, SqL.of A2.t, rfl, _, _, rfl, rfl, _, _, rfl, ⟨by omega, by omega, by omega, by omega⟩, fun D hD => ?_⟩
    rw [show ((T2.us.length : Int) + 1 - 1).toNat = T2.us.length by omega]
    refine lc_it walk_range (fun i H3 => H3 D = some (.lst (((fil (fun k => decide ((k * (T1.us.length : Int)) % (T2.us.length : Int) = 0)) 1 i).map (· * (T1.us.length : Int))).map V.int)) ∧ Same H H3) ⟨upd_same, same_new (Same.refl H) hD⟩ (fun i H3 _ h => trivial) ?_ ?_
    · rintro i v H3 H4 hi ⟨eD, s3⟩ ⟨rfl, rfl⟩
      refine ⟨rfl, _, rfl, _, rfl, t1, _, _, _, rfl, rfl, SqL.of (s3 _ _ A1.t), rfl, _, _, rfl, rfl, .inl ⟨by omega, by omega⟩, .inl ⟨_, rfl, _, rfl, t2, _, _, _, rfl, rfl, SqL.of (s3 _ _ A2.t), rfl, _, _, rfl, rfl, m2', rfl, _, rfl, ?_⟩⟩
      rw [vdec]
      cases hb : decide (((1 + (i : Int)) * (T1.us.length : Int)) % (T2.us.length : Int) = 0) with
      | false =>
        refine iteF ⟨?_, s3⟩
        rw [fil_neg (by rw [hb]; exact Bool.false_ne_true)]
        exact eD
      | true =>
        refine iteT ⟨_, rfl, _, rfl, t1, _, _, _, rfl, rfl, SqL.of (s3 _ _ A1.t), rfl, _, _, rfl, rfl, .inl ⟨by omega, by omega⟩, _, eD, smallB (by rw [List.length_map, List.length_map]; exact Nat.le_trans (fil_len _ _ _) (by omega)), ?_, fun b o e => ?_⟩
        · rw [fil_pos hb, List.map_append, List.map_append]
          exact upd_same
        · rw [upd_ne (ne_of_none e hD)]
          exact s3 b o e
    rintro H3 ⟨eD, s3⟩
    obtain ⟨v, ev, evl, v1, v2⟩ := size_lcm p1 p2
    have at0 : atI (((fil (fun k => decide ((k * (T1.us.length : Int)) % (T2.us.length : Int) = 0)) 1 T2.us.length).map (· * (T1.us.length : Int))).map V.int) ((0 : Nat) : Int) = some (.int (Nat.lcm T1.us.length T2.us.length : Nat)) := by
      refine atI_nat ?_
      rw [List.getElem?_map, List.getElem?_map, ev]
      show some (V.int (v * (T1.us.length : Int))) = _
      rw [evl]
    have M0 : 0 < Nat.lcm T1.us.length T2.us.length := Nat.lcm_pos p1 p2
    have MB : Nat.lcm T1.us.length T2.us.length ≤ 22500 := by
      have := Nat.le_of_dvd (Nat.mul_pos p1 p2) (Nat.lcm_dvd (Nat.dvd_mul_right T1.us.length T2.us.length) (Nat.dvd_mul_left T2.us.length T1.us.length))
      have := Nat.mul_le_mul lu1 lu2
      omega
    obtain ⟨M, hM⟩ : ∃ M, M = Nat.lcm T1.us.length T2.us.length := ⟨_, rfl⟩
    rw [← hM] at M0 MB at0
    generalize hA : (if T2.lo < T1.lo then T2.lo else T1.lo) = low
    have vA : low ≤ T1.lo ∧ low ≤ T2.lo ∧ (low = T1.lo ∨ low = T2.lo) := by split at hA <;> omega
    generalize hB : (if T2.hi > T1.hi then T2.hi else T1.hi) = high
    have vB : T1.hi ≤ high ∧ T2.hi ≤ high ∧ (high = T1.hi ∨ high = T2.hi) := by split at hB <;> omega
    have mm := mix_mixed (op := opOf way) hM o1 o2 vA vB
    refine ⟨D, _, _, _, rfl, rfl, SqL.of eD, at0, ?_⟩
    refine ⟨_, rfl, t1, _, _, _, rfl, rfl, SqL.of (s3 _ _ A1.t), rfl, _, rfl, t2, _, _, _, rfl, rfl, SqL.of (s3 _ _ A2.t), rfl, _, _, rfl, ?_⟩
    rw [hA]
    refine ⟨_, rfl, t1, _, _, _, rfl, rfl, SqL.of (s3 _ _ A1.t), rfl, _, rfl, t2, _, _, _, rfl, rfl, SqL.of (s3 _ _ A2.t), rfl, _, _, rfl, ?_⟩
    rw [hB]
    have hBd : -400 ≤ low ∧ high ≤ 400 ∧ low ≤ high + 1 := by omega
    refine ⟨Nat.zero_le _, fun R hR => ?_⟩
    have s4 := same_new (o := .lst []) s3 hR
    refine ⟨_, rfl, _, rfl, _, rfl, _, _, rfl, rfl, _, _, rfl, rfl, (by show 2 ≤ sizeLine; decide), fun ta hta => ⟨_, rfl, _, _, rfl, rfl, _, rfl, (by show 2 ≤ sizeLine; decide), fun tb htb => ⟨_, rfl, _, rfl, _, _, rfl, rfl, _, rfl, (by show 2 ≤ sizeLine; decide), fun tc htc => ⟨(by show 3 ≤ sizeLine; decide), fun tt htt => ?_⟩⟩⟩⟩
    have s5 := same_new (o := .tup [V.ref ta, V.ref tb, V.ref tc]) (same_new (o := .tup [V.int (low - M), V.int M]) (same_new (o := .tup [V.int (high + 1), V.int M]) (same_new (o := .tup [V.int low, V.int (high - low + 1)]) (Same.refl (upd H3 R (.lst []))) hta) htb) htc) htt
    have nab : ta ≠ tb := ne_of_none upd_same htb
    have nac : ta ≠ tc := ne_of_none (by rw [upd_ne nab]; exact upd_same) htc
    have nbc : tb ≠ tc := ne_of_none upd_same htc
    have nat : ta ≠ tt := ne_of_none (by rw [upd_ne nac, upd_ne nab]; exact upd_same) htt
    have nbt : tb ≠ tt := ne_of_none (by rw [upd_ne nbc]; exact upd_same) htt
    have nct : tc ≠ tt := ne_of_none upd_same htt
    generalize hH5 : upd (upd (upd (upd (upd H3 R (.lst [])) ta (.tup [V.int low, V.int (high - low + 1)])) tb (.tup [V.int (high + 1), V.int M])) tc (.tup [V.int (low - M), V.int M])) tt (.tup [V.ref ta, V.ref tb, V.ref tc]) = H5 at s5
    have eta : H5 ta = some (.tup [V.int low, V.int (high - low + 1)]) := by rw [← hH5, upd_ne nat, upd_ne nac, upd_ne nab]; exact upd_same
    have etb : H5 tb = some (.tup [V.int (high + 1), V.int M]) := by rw [← hH5, upd_ne nbt, upd_ne nbc]; exact upd_same
    have etc : H5 tc = some (.tup [V.int (low - M), V.int M]) := by rw [← hH5, upd_ne nct]; exact upd_same
    have ett : H5 tt = some (.tup [V.ref ta, V.ref tb, V.ref tc]) := by rw [← hH5]; exact upd_same
    have eR5 : H5 R = some (.lst []) := s5 _ _ upd_same
    have sH5 : Same H H5 := s4.trans s5
    have nR : H R = none := s3.free hR
    have nRt : ∀ {x : Addr} {o : List V}, H5 x = some (.tup o) → x ≠ R := fun e => ne_of e eR5 (by intro z; cases z)
    refine ⟨tt, rfl, ⟨_, SqT.of ett⟩, for_it (walk_tup (K := K) (a := tt) (xs := [V.ref ta, V.ref tb, V.ref tc])) (fun i σ H6 => ∃ y7 y8 y9 y10 y11 y12 : Option V, σ = [some (V.ref t1), some (V.ref t2), some (V.int way), some (V.int M), some (V.int low), some (V.int high), some (V.ref R), y7, y8, y9, y10, y11, y12, none, none] ∧ But R H5 H6 ∧ RowsAt H6 R (gIn T1 T2 (opOf way)) (stF low high M) (mnF low high M) i) ⟨_, _, _, _, _, _, rfl, But.refl _ _, [], rfl, (fun z => nomatch z), eR5, (fun j r e => by simp at e)⟩ (fun i σ H6 _ ⟨_, _, _, _, _, _, _, b6, _⟩ => SqT.of (b6 _ _ (nRt ett) ett)) ?_ ?_⟩
    · rintro i v σ H7 H6 hi' ⟨y7, y8, y9, y10, y11, y12, rfl, b6, rs, rl, rn, eR, er⟩ ⟨rfl, e4⟩
      obtain ⟨t, rfl, et⟩ := it3 hBd.2.2 eta etb etc e4
      have mnB : mnF low high M i ≤ 30000 := by unfold mnF; split <;> omega
      have stB : -30000 ≤ stF low high M i ∧ stF low high M i ≤ 30000 := by unfold stF; split <;> (try split) <;> omega
      refine ⟨t, _, rfl, SqT.of (b6 _ _ (nRt et) et), rfl, _, _, rfl, _, _, rfl, rfl, ?_⟩
      refine ⟨Nat.zero_le _, fun r hr' => ?_⟩
      have sH6 : Same H H6 := fun b o e => b6 b o (ne_of_none e nR) (sH5 b o e)
      have nRr : R ≠ r := ne_of_none eR hr'
      have nr : H r = none := sH6.free hr'
      refine ⟨_, rfl, _, rfl, by omega, by omega, ?_⟩
      rw [show ((mnF low high M i : Nat) : Int).toNat = mnF low high M i by omega]
      refine for_range (fun j σ H8 => ∃ y10 y11 y12 : Option V, σ = [some (V.ref t1), some (V.ref t2), some (V.int way), some (V.int M), some (V.int low), some (V.int high), some (V.ref R), some (V.int (stF low high M i)), some (V.int (mnF low high M i)), some (V.ref r), y10, y11, y12, none, none] ∧ H8 r = some (.lst ((rowB (gIn T1 T2 (opOf way)) (stF low high M i) j).map V.bl)) ∧ But r H6 H8) ⟨_, _, _, rfl, upd_same, (But.refl _ _).upd⟩ ?_ ?_
      · rintro j σ H8 hj ⟨z10, z11, z12, rfl, e8, b8⟩
        have sH8 : Same H H8 := fun b o e => b8 b o (ne_of_none e nr) (sH6 b o e)
        rw [Int.zero_add]
        refine ⟨_, rfl, _, rfl, _, rfl, _, _, rfl, rfl, t1, c1, u1, d1, T1, _, rfl, A1.same sH8, o1, ?_⟩
        refine ⟨_, rfl, _, rfl, _, rfl, _, _, rfl, rfl, t2, c2, u2, d2, T2, _, rfl, A2.same sH8, o2, ?_⟩
        have z3 : (3 : Nat) ≤ sizeLine := by decide
        have fin : ∀ a : Bool, T1.has (stF low high M i + (j : Int)) = a → ∀ q, H8 q = none → ∀ hh, hh = upd H8 q (.tup [V.bl (a || T2.has (stF low high M i + (j : Int))), V.bl (a && T2.has (stF low high M i + (j : Int))), V.bl (a && !T2.has (stF low high M i + (j : Int)))]) → ∃ v, atI [V.bl (a || T2.has (stF low high M i + (j : Int))), V.bl (a && T2.has (stF low high M i + (j : Int))), V.bl (a && !T2.has (stF low high M i + (j : Int)))] way = some v ∧ hh r = some (.lst ((rowB (gIn T1 T2 (opOf way)) (stF low high M i) j).map V.bl)) ∧ (upd hh r (.lst ((rowB (gIn T1 T2 (opOf way)) (stF low high M i) j).map V.bl ++ [v]))) r = some (.lst ((rowB (gIn T1 T2 (opOf way)) (stF low high M i) (j + 1)).map V.bl)) ∧ But r H6 (upd hh r (.lst ((rowB (gIn T1 T2 (opOf way)) (stF low high M i) j).map V.bl ++ [v]))) := by
          intro a ha q hq hh ehh
          have nrq : r ≠ q := ne_of_none e8 hq
          refine ⟨_, pick_op w0 w1 _ _, by rw [ehh, upd_ne nrq]; exact e8, ?_, ?_⟩
          · rw [rowB_succ, List.map_append]
            refine Eq.trans upd_same ?_
            unfold gIn
            rw [ha]
            rfl
          · refine But.upd fun b o hb e => ?_
            have e' := b8 b o hb e
            rw [ehh, upd_ne (ne_of_none e' hq)]
            exact e'
        refine ⟨_, rfl, .inl ⟨rfl, _, SqL.of e8⟩, _, rfl, _, rfl, ?_⟩
        cases ha : T1.has (stF low high M i + (j : Int)) with
        | true =>
          refine iteT ⟨_, rfl, _, rfl, iteT ⟨_, rfl, _, rfl, _, rfl, iteT ⟨_, rfl, _, rfl, z3, fun q hq => ?_⟩⟩⟩
          obtain ⟨v, g1, g2, g3, g4⟩ := fin true ha q hq _ rfl
          exact ⟨_, rfl, q, _, _, _, rfl, rfl, SqT.of upd_same, g1, r, _, _, rfl, rfl, g2, smallB (by rw [List.length_map, rowB_len]; omega), _, _, _, rfl, g3, g4⟩
        | false =>
          refine iteF ⟨_, rfl, _, rfl, _, rfl, iteF ⟨_, rfl, _, rfl, iteF ⟨z3, fun q hq => ?_⟩⟩⟩
          obtain ⟨v, g1, g2, g3, g4⟩ := fin false ha q hq _ rfl
          exact ⟨_, rfl, q, _, _, _, rfl, rfl, SqT.of upd_same, g1, r, _, _, rfl, rfl, g2, smallB (by rw [List.length_map, rowB_len]; omega), _, _, _, rfl, g3, g4⟩
      · rintro σ H8 ⟨z10, z11, z12, rfl, e8, b8⟩
        have eR8 := b8 _ _ nRr eR
        refine ⟨_, rfl, .inl ⟨rfl, _, SqL.of eR8⟩, _, rfl, R, _, _, rfl, rfl, eR8, smallB (by rw [List.length_map, rl]; have : i < 3 := hi'; omega), _, _, _, _, _, _, rfl, ?_, rs ++ [r], by rw [List.length_append, rl]; rfl, ?_, ?_, ?_⟩
        · intro b o hb e
          rw [upd_ne hb]
          have e6 := b6 b o hb e
          exact b8 b o (ne_of_none e6 hr') e6
        · intro z
          rcases List.mem_append.mp z with z | z
          · exact rn z
          · exact nRr (List.mem_singleton.mp z)
        · rw [List.map_append]
          exact upd_same
        · intro j q e
          rcases Nat.lt_trichotomy j rs.length with c | c | c
          · rw [List.getElem?_append_left c] at e
            have nq : q ≠ R := fun z => rn (z ▸ List.mem_of_getElem? e)
            have eq6 := er j q e
            rw [upd_ne nq]
            exact b8 _ _ (ne_of_none eq6 hr') eq6
          · subst c
            have : r = q := by simpa using e
            subst this
            rw [upd_ne nRr.symm, rl]
            exact e8
          · rw [List.getElem?_eq_none (by rw [List.length_append, List.length_singleton]; omega)] at e
            cases e
    rintro σ H6 ⟨y7, y8, y9, y10, y11, y12, rfl, b6, rs, rl, rn, eR, er⟩
    have sH6 : Same H H6 := fun b o e => b6 b o (ne_of_none e nR) (sH5 b o e)
    obtain ⟨r0, r1, r2, rfl⟩ : ∃ r0 r1 r2, rs = [r0, r1, r2] := by
      match rs, rl with
      | [r0, r1, r2], _ => exact ⟨r0, r1, r2, rfl⟩
    have f0 := er 0 r0 rfl
    have f1 := er 1 r1 rfl
    have f2 := er 2 r2 rfl
    have M0' : (0 : Int) < (M : Int) := by omega
    have at_ : ∀ (a z : Int), atI ((rowB (gIn T1 T2 (opOf way)) a M).map V.bl) (z % (M : Int)) = some (.bl (gIn T1 T2 (opOf way) (a + z % (M : Int)))) := fun a z => by
      have k0 := Int.emod_nonneg z (by omega : (M : Int) ≠ 0)
      have k1 := Int.emod_lt_of_pos z M0'
      rw [blI_get k0 (by rw [rowB_len]; omega), rowB_get (by omega)]
      congr 4
      omega
    refine ⟨_, rfl, _, rfl, by omega, by omega, fun Du hDu => ?_⟩
    refine lc_it walk_range (fun i H7 => H7 Du = some (.lst ((rowB (gUp T1 T2 (opOf way) high M) 0 i).map V.bl)) ∧ Same H6 H7) ⟨upd_same, same_new (Same.refl H6) hDu⟩ (fun i H7 _ h => trivial) ?_ ?_
    · rintro i v H7 H8 hi ⟨eD, s7⟩ ⟨rfl, rfl⟩
      refine ⟨rfl, _, rfl, R, _, _, _, rfl, rfl, SqL.of (s7 _ _ eR), rfl, _, rfl, _, rfl, _, _, rfl, rfl, _, _, rfl, rfl, .inl ⟨_, rfl, _, rfl, _, _, rfl, rfl, M0', r1, _, _, _, rfl, rfl, SqL.of (s7 _ _ f1), at_ _ _, _, eD, smallB (by rw [List.length_map, rowB_len]; omega), ?_, fun b o e => ?_⟩⟩
      · rw [rowB_succ, List.map_append]
        exact upd_same
      · rw [upd_ne (ne_of_none e hDu)]
        exact s7 b o e
    rintro H7 ⟨eU, s7⟩
    rw [show ((M : Int)).toNat = M by omega] at eU
    refine ⟨_, rfl, _, rfl, by omega, by omega, fun Dd hDd => ?_⟩
    refine lc_it walk_range (fun i H8 => H8 Dd = some (.lst ((rowB (gDn T1 T2 (opOf way) low M) 0 i).map V.bl)) ∧ Same H7 H8) ⟨upd_same, same_new (Same.refl H7) hDd⟩ (fun i H8 _ h => trivial) ?_ ?_
    · rintro i v H8 H9 hi ⟨eD, s8⟩ ⟨rfl, rfl⟩
      refine ⟨rfl, _, rfl, R, _, _, _, rfl, rfl, SqL.of (s8 _ _ (s7 _ _ eR)), rfl, _, rfl, _, rfl, _, _, rfl, rfl, .inl ⟨_, rfl, _, rfl, _, _, rfl, rfl, M0', r2, _, _, _, rfl, rfl, SqL.of (s8 _ _ (s7 _ _ f2)), at_ _ _, _, eD, smallB (by rw [List.length_map, rowB_len]; omega), ?_, fun b o e => ?_⟩⟩
      · rw [rowB_succ, List.map_append]
        exact upd_same
      · rw [upd_ne (ne_of_none e hDd)]
        exact s8 b o e
    rintro H8 ⟨eD8, s8⟩
    rw [show ((M : Int)).toNat = M by omega] at eD8
    have s78 := s7.trans s8
    refine ⟨_, rfl, _, rfl, _, rfl, R, _, _, _, rfl, rfl, SqL.of (s78 _ _ eR), rfl, _, rfl, _, rfl, _, rfl, (by show 6 ≤ sizeLine; decide), fun tz htz => ?_⟩
    have s9 := same_new (o := .lst [V.int low, V.int high, V.ref r0, V.int M, V.ref Du, V.ref Dd]) (Same.refl H8) htz
    refine k tz r0 Du Dd (mixT T1 T2 (opOf way) low high M) _ ((sH6.trans s78).trans s9) ⟨?_, ⟨s9 _ _ (s78 _ _ f0), s9 _ _ (s8 _ _ eU), s9 _ _ eD8⟩⟩ mm
    refine Eq.trans upd_same ?_
    show some (HO.lst [V.int low, V.int high, V.ref r0, V.int M, V.ref Du, V.ref Dd]) = some (HO.lst [V.int low, V.int (low + ((rowB (gIn T1 T2 (opOf way)) low (high - low + 1).toNat).length : Int) - 1), V.ref r0, V.int ((rowB (gUp T1 T2 (opOf way) high M) 0 M).length : Nat), V.ref Du, V.ref Dd])
    rw [rowB_len, rowB_len, show low + ((high - low + 1).toNat : Int) - 1 = high by omega]
end
end My
set_option Elab.async false
set_option linter.all false
set_option maxRecDepth 100000
set_option maxHeartbeats 8000000
namespace My
open PySem PySem.Spec PyProof.Rows L2
local macro_rules | `(tactic| walk_at "lv") => `(tactic| first | exact Or.inl rfl | exact Or.inr rfl)
section
variable {P : Program} {w : World} {K : PySem.W.Frag} {mg : Str → Option Value} {base : Heap}
/-! ### _law_long -/
def spLong (K : PySem.W.Frag) : Sp := fun vs H Q _ => ∃ (p q : Addr) (way : Int) (lo hi lo2 hi2 : Int) (m m2 : Nat) (xs us ds xs2 us2 ds2 : List Int), vs = [.ref p, .ref q, .int way] ∧ (0 ≤ way ∧ way < 4) ∧ Two K H p q lo hi lo2 hi2 m m2 xs us ds xs2 us2 ds2 ∧ ∀ H', Same H H' → Q (.bl (decide (10080 < Nat.lcm m m2))) H'
abbrev s_long : Stmt := top 51
abbrev N_long : List Str := ["_law_one", "_law_other", "_law_way", "e"]
theorem sc_long : FnScope N_long ["_law_one", "_law_other", "_law_way"] (defScope s_long) := ⟨rfl, rfl, rfl, by decide +kernel, rfl, by decide +kernel, by decide +kernel⟩
def tLongS (K : PySem.W.Frag) (a : Addr) (cls : Value) (d : Option Addr) : TS := tRet (tOp rEq (tXf a cls d (He.ga K "TooLong") "most" (tVar 3)) (tC (.int 10080)))
theorem kp_long (F : At K mg "_law_long" s_long) (T0 : ExF K mg "TooLong" "BookError" ["most"]) (xf : XfC K (He.ga K "TooLong")) (xm : PySem.W.exmOne K (.ref (He.ga K "TooLong")) (.ref (He.ga K "TooLong")) = some true)
    (Ge : Keeps (CX P w) P w K mg base "either_lot" 5 ["one", "other"] (spMix2 K opE)) (Gb : Keeps (CX P w) P w K mg base "both_lot" 5 ["one", "other"] (spMix2 K opB)) (Gl_ : Keeps (CX P w) P w K mg base "less_lot" 5 ["one", "other"] (spMix2 K opL)) (Gw : Keeps (CX P w) P w K mg base "within" 4 ["one", "other"] (spWi K)) :
    Keeps CX0 P w K mg base "_law_long" 6 ["_law_one", "_law_other", "_law_way"] (spLong K) := by
  refine keeps_of F sc_long (fun _ _ _ _ _ _ us hl => match us, hl with | [_, _, _], _ => rfl) (fun vs H Q E h => ?_) (fun f cdv A outer s H vs Q E hr h => ?_)
  · obtain ⟨p, q, way, lo, hi, lo2, hi2, m, m2, xs, us, ds, xs2, us2, ds2, rfl, _⟩ := h
    rfl
  · obtain ⟨p, q, way, lo, hi, lo2, hi2, m, m2, xs, us, ds, xs2, us2, ds2, rfl, ww, W, k⟩ := h
    obtain ⟨fe, Fe, be, kpe, me⟩ := Ge
    obtain ⟨fb, Fb, bb, kpb, mb⟩ := Gb
    obtain ⟨fl, Fl, bl, kpl, ml⟩ := Gl_
    obtain ⟨fw, Fw, bw, kpw, mw⟩ := Gw
    have h4 := hr.mono (show 4 ≤ 5 by decide)
    refine ⟨_, (pss_cons (ps_try_as (i := 3) (tb := fun W => tIfS (tTest (tOp rEq (tVar 2) (tC (.int 0)))) (tDrop (tCallS (spMix2 K opE) (WE W) (tCons (tVar 0) (tCons (tVar 1) tNil)))) (tIfS (tTest (tOp rEq (tVar 2) (tC (.int 1)))) (tDrop (tCallS (spMix2 K opB) (WE W) (tCons (tVar 0) (tCons (tVar 1) tNil)))) (tIfS (tTest (tOp rEq (tVar 2) (tC (.int 2)))) (tDrop (tCallS (spMix2 K opL) (WE W) (tCons (tVar 0) (tCons (tVar 1) tNil)))) (tDrop (tCallS (spWi K) (WE W) (tCons (tVar 0) (tCons (tVar 1) tNil))))))) (ts := fun a cls d => tLongS K a cls d) (Wout := fun _ _ _ _ => False) rfl rfl sc_long.nd rfl rfl ⟨(by rfl), by decide, .inl T0.g⟩ takes0
      (fun W pn xe tk _ => pss_one (ps_if (pt_cmpR op_eq (pv 2) pe_int (nomark _)) (pss_one (ps_expr (pe_callS Fe hr (by rfl) me kpe be (fun σ => passAt tk σ) (pa_cons (pv 0) (pa_cons (pv 1) pa_nil)))))
        (pss_one (ps_if (pt_cmpR op_eq (pv 2) pe_int (nomark _)) (pss_one (ps_expr (pe_callS Fb hr (by rfl) mb kpb bb (fun σ => passAt tk σ) (pa_cons (pv 0) (pa_cons (pv 1) pa_nil)))))
          (pss_one (ps_if (pt_cmpR op_eq (pv 2) pe_int (nomark _)) (pss_one (ps_expr (pe_callS Fl hr (by rfl) ml kpl bl (fun σ => passAt tk σ) (pa_cons (pv 0) (pa_cons (pv 1) pa_nil))))) (pss_one (ps_expr (pe_callS Fw h4 (by rfl) mw kpw bw (fun σ => passAt tk σ) (pa_cons (pv 0) (pa_cons (pv 1) pa_nil)))))))))))
      (fun a oe cls d pn hz hf => pss_one (ps_ret (pe_cmpR op_eq (pe_xf xf (T0.no _ (by decide)) hz hf (pv 3)) pe_int (nomark _)))))
        (pss_one (ps_ret pe_bl))), ?_⟩
    have i00 : decide (V.int 0 = V.int 0) = true := by simp
    have i10 : decide (V.int 1 = V.int 0) = false := by simp
    have i11 : decide (V.int 1 = V.int 1) = true := by simp
    have i20 : decide (V.int 2 = V.int 0) = false := by simp
    have i21 : decide (V.int 2 = V.int 1) = false := by simp
    have i22 : decide (V.int 2 = V.int 2) = true := by simp
    have i30 : decide (V.int 3 = V.int 0) = false := by simp
    have i31 : decide (V.int 3 = V.int 1) = false := by simp
    have i32 : decide (V.int 3 = V.int 2) = false := by simp
    have fls : Nat.lcm m m2 ≤ 10080 → ∀ H', Same H H' → Q (.bl false) H' := fun hM H' s => by
      have := k H' s
      rw [decide_eq_false (by omega)] at this
      exact this
    have t2 : Nat.lcm m m2 ≤ 10080 → ∀ H', Same H H' → Q (.bl (decide (V.int 20000 = V.int 10080))) H' := fun hM H' s => by
      rw [show decide (V.int 20000 = V.int 10080) = false by simp]
      exact fls hM H' s
    have t1 : 10080 < Nat.lcm m m2 → ∀ H', Same H H' → Q (.bl (decide (V.int 10080 = V.int 10080))) H' := fun hM H' s => by
      have := k H' s
      rw [decide_eq_true hM] at this
      rw [show decide (V.int 10080 = V.int 10080) = true by simp]
      exact this
    have : way = 0 ∨ way = 1 ∨ way = 2 ∨ way = 3 := by omega
    rcases this with rfl | rfl | rfl | rfl
    · refine ⟨_, rfl, rfl, _, rfl, ?_⟩
      rw [i00]
      refine iteT ⟨_, rfl, _, rfl, ?_⟩
      refine ⟨p, q, lo, hi, lo2, hi2, m, m2, xs, us, ds, xs2, us2, ds2, rfl, W, fun hM T _ _ _ => ⟨fun p' lo' hi' d' H' fm _ _ s _ => fls hM _ s, fun lo' hi' d' dd H' fm _ s e => ⟨true, xm, fun _ x hx => ⟨_, rfl, rfl, rfl, dd, _, .int 20000, rfl, e, rfl, rfl, ?_⟩, fun z => nomatch z⟩⟩, fun hM dd H' s e => ⟨true, xm, fun _ x hx => ⟨_, rfl, rfl, rfl, dd, _, .int 10080, rfl, e, rfl, rfl, ?_⟩, fun z => nomatch z⟩⟩
      · exact t2 hM H' s
      · exact t1 hM H' s
    · refine ⟨_, rfl, rfl, _, rfl, ?_⟩
      rw [i10]
      refine iteF ⟨_, rfl, rfl, _, rfl, ?_⟩
      rw [i11]
      refine iteT ⟨_, rfl, _, rfl, ?_⟩
      refine ⟨p, q, lo, hi, lo2, hi2, m, m2, xs, us, ds, xs2, us2, ds2, rfl, W, fun hM T _ _ _ => ⟨fun p' lo' hi' d' H' fm _ _ s _ => fls hM _ s, fun lo' hi' d' dd H' fm _ s e => ⟨true, xm, fun _ x hx => ⟨_, rfl, rfl, rfl, dd, _, .int 20000, rfl, e, rfl, rfl, ?_⟩, fun z => nomatch z⟩⟩, fun hM dd H' s e => ⟨true, xm, fun _ x hx => ⟨_, rfl, rfl, rfl, dd, _, .int 10080, rfl, e, rfl, rfl, ?_⟩, fun z => nomatch z⟩⟩
      · exact t2 hM H' s
      · exact t1 hM H' s
    · refine ⟨_, rfl, rfl, _, rfl, ?_⟩
      rw [i20]
      refine iteF ⟨_, rfl, rfl, _, rfl, ?_⟩
      rw [i21]
      refine iteF ⟨_, rfl, rfl, _, rfl, ?_⟩
      rw [i22]
      refine iteT ⟨_, rfl, _, rfl, ?_⟩
      refine ⟨p, q, lo, hi, lo2, hi2, m, m2, xs, us, ds, xs2, us2, ds2, rfl, W, fun hM T _ _ _ => ⟨fun p' lo' hi' d' H' fm _ _ s _ => fls hM _ s, fun lo' hi' d' dd H' fm _ s e => ⟨true, xm, fun _ x hx => ⟨_, rfl, rfl, rfl, dd, _, .int 20000, rfl, e, rfl, rfl, ?_⟩, fun z => nomatch z⟩⟩, fun hM dd H' s e => ⟨true, xm, fun _ x hx => ⟨_, rfl, rfl, rfl, dd, _, .int 10080, rfl, e, rfl, rfl, ?_⟩, fun z => nomatch z⟩⟩
      · exact t2 hM H' s
      · exact t1 hM H' s
    · refine ⟨_, rfl, rfl, _, rfl, ?_⟩
      rw [i30]
      refine iteF ⟨_, rfl, rfl, _, rfl, ?_⟩
      rw [i31]
      refine iteF ⟨_, rfl, rfl, _, rfl, ?_⟩
      rw [i32]
      refine iteF ⟨_, rfl, _, rfl, ?_⟩
      refine ⟨p, q, lo, hi, lo2, hi2, m, m2, xs, us, ds, xs2, us2, ds2, rfl, W, fun hM v H' s _ => fls hM _ s, fun hM dd H' s e => ⟨true, xm, fun _ x hx => ⟨_, rfl, rfl, rfl, dd, _, .int 10080, rfl, e, rfl, rfl, ?_⟩, fun z => nomatch z⟩⟩
      exact t1 hM H' s
end
end My
set_option Elab.async false
set_option linter.all false
set_option maxRecDepth 100000
set_option maxHeartbeats 8000000
namespace My
open PySem PySem.Spec PyProof.Rows L2
local macro_rules | `(tactic| walk_at "lv") => `(tactic| first | exact Or.inl rfl | exact Or.inr rfl)
/-! ### what the law leans on -/
def spLaw (K : PySem.W.Frag) : Sp := fun vs H Q _ => ∃ (a : Addr) (ns : List Int), vs = [.ref a] ∧ SqL K H a (ns.map V.int) ∧ ns.length ≤ 63 ∧ ∀ H', Q (.bl true) H'
abbrev s_law : Stmt := top 52
abbrev N_law : List Str := ["_law_script", "_law_hand_here", "_law_sizes", "_law_lots", "_law_step", "_law_due", "_law_way", "_law_turn", "_law_one", "_law_other", "_law_a", "_law_b", "_law_seen_here", "_law_answers", "_law_told", "_law_size", "_law_k", "_law_low", "_law_high", "_law_n"]
theorem sc_law : FnScope N_law ["_law_script"] (defScope s_law) := ⟨rfl, rfl, rfl, by decide +kernel, rfl, by decide +kernel, by decide +kernel⟩
structure LawSrc (P : Program) (w : World) (K : PySem.W.Frag) (mg : Str → Option Value) (base : Heap) : Prop where
  n : Nb mg
  lt : LotTxt K mg (He.ga K "Lot")
  hand : Keeps CX0 P w K mg base "_law_hand" 1 ["_law_script"] (spHand K)
  draw : Keeps CX0 P w K mg base "_law_draw" 2 ["_law_hand_here", "_law_many"] spDraw
  td : Keeps CX0 P w K mg base "_law_telling_drawn" 3 ["_law_hand_here", "_law_far"] spTD
  form : Keeps CX0 P w K mg base "_law_form" 2 ["_law_telling"] spForm
  lo : Keeps CX0 P w K mg base "_law_lot_of" 5 ["_law_telling"] (spLo K)
  seen : Keeps CX0 P w K mg base "_law_seen" 1 ["_law_lot"] (spSeen (He.ga K "Lot"))
  isf : Keeps CX0 P w K mg base "_law_is_form" 3 ["_law_lot", "_law_form_here"] (spIsF (He.ga K "Lot"))
  has : Keeps CX0 P w K mg base "_law_has" 1 ["_law_telling", "_law_number"] spHas
  mx : Keeps CX0 P w K mg base "_law_mixed" 2 ["_law_one", "_law_other", "_law_way"] spMx
  long : Keeps CX0 P w K mg base "_law_long" 6 ["_law_one", "_law_other", "_law_way"] (spLong K)
  either : Keeps (CX P w) P w K mg base "either_lot" 5 ["one", "other"] (spMix2 K opE)
  both : Keeps (CX P w) P w K mg base "both_lot" 5 ["one", "other"] (spMix2 K opB)
  less : Keeps (CX P w) P w K mg base "less_lot" 5 ["one", "other"] (spMix2 K opL)
  wi : Keeps (CX P w) P w K mg base "within" 4 ["one", "other"] (spWi K)
  mem : Keeps CX0 P w K mg base "lot_members" 3 ["lot", "low", "high"] (spMem (He.ga K "Lot"))
  make : Keeps (CX P w) P w K mg base "make_lot" 4 ["low", "high", "inside", "modulus", "ups", "downs"] (spMake K)
abbrev cxL (P : Program) (w : World) (K : PySem.W.Frag) (mg : Str → Option Value) (base : Heap) (cdv : Value) (A : Around) (outer : List Env) (s : Shared) (H : Hp) (E : XK) : L2.Cx := (cxOf CX0 P w K mg base N_law "law" (defScope s_law) (He.ga K "law") cdv A outer s H E).nox
def forBody (st : Stmt) (i : Nat) : List Stmt := match (defBody st)[i]? with
  | some (.For _ _ b _ _) => b
  | _ => []
/-! ### forms near zero -/
theorem form_ex {T : Tl} (ok : T.Ok) : ∃ lo hi d, IsForm T.has T.U T.D lo hi d := by
  obtain ⟨d, hd⟩ := least_ex T.us.length ok.pos ok.pu ok.pd
  by_cases h : ∀ n, T.has n = T.U n
  · exact ⟨_, _, d, form_none ok hd h⟩
  · have hx : ∃ n, T.has n ≠ T.U n := Classical.byContradiction fun z => h fun n => Classical.byContradiction fun y => z ⟨n, y⟩
    cases e : fil (fun n => !decide (T.has n = T.U n)) (T.lo - T.us.length) (T.cs.length + T.us.length + T.us.length) with
    | nil => exact absurd (tops_nil ok e) h
    | cons v r =>
      have hne : fil (fun n => !decide (T.has n = T.U n)) (T.lo - T.us.length) (T.cs.length + T.us.length + T.us.length) ≠ [] := by rw [e]; simp
      have e2 := (List.dropLast_concat_getLast hne).symm
      obtain ⟨g1, g2, _, _⟩ := tops_last ok e2
      obtain ⟨b, _, b1, b2, _⟩ := bottoms_first ok hx
      exact ⟨_, _, d, form_some hd g1 g2 b1 b2⟩
theorem form_near {T : Tl} {lo hi : Int} {d : Nat} (ok : T.Ok) (f : IsForm T.has T.U T.D lo hi d) : (lo = 0 ∧ hi = -1) ∨ (T.lo - T.us.length ≤ hi ∧ hi ≤ T.hi ∧ T.lo - T.us.length ≤ lo ∧ lo ≤ hi + 1) := by
  rcases f.ends with ⟨_, _, h1, h2⟩ | ⟨h1, h2, h3, _, h5⟩
  · exact .inl ⟨h1, h2⟩
  · have hp := ok.pos
    have hh : T.hi = T.lo + T.cs.length - 1 := rfl
    have a1 : hi ≤ T.hi := Int.not_lt.mp fun z => h1 (Tl.above z)
    have a2 : T.lo - T.us.length ≤ hi := by
      refine Int.not_lt.mp fun z => h1 ?_
      have q := h2 (hi + (T.us.length : Int)) (by omega)
      rw [Tl.below (by omega)] at q
      rw [Tl.below (by omega), ← ok.pd hi, ← ok.pu hi]
      exact q
    refine .inr ⟨a2, a1, ?_, h3⟩
    rcases h5 with h5 | h5
    · omega
    · have : T.lo ≤ lo := Int.not_lt.mp fun z => h5 (Tl.below z)
      omega
theorem form_dvd {T : Tl} {lo hi : Int} {d : Nat} (ok : T.Ok) (f : IsForm T.has T.U T.D lo hi d) : d ∣ T.us.length := Nat.dvd_of_mod_eq_zero (f.least.dvd ok.pos ok.pu ok.pd)
theorem mem_insOf {T : Tl} {lo hi x : Int} (h : x ∈ insOf T lo hi) : lo ≤ x ∧ x ≤ hi := by
  have := (mem_fil.mp h).1
  omega
theorem mem_res0 {f : Int → Bool} {m : Nat} {r : Int} (h : r ∈ resOf f m) : 0 ≤ r ∧ r < m := by
  have := (mem_fil.mp h).1
  omega
/-- a telling near zero -/
structure Nz (T : Tl) : Prop where
  ok : T.Ok
  m : T.us.length ≤ 144
  c : T.cs.length ≤ 20
  lo : -6 ≤ T.lo ∧ T.lo ≤ 6
  hi : T.hi ≤ 13
theorem Nz.form {T : Tl} {lo hi : Int} {d : Nat} (z : Nz T) (f : IsForm T.has T.U T.D lo hi d) : -200 ≤ lo ∧ lo ≤ hi + 1 ∧ hi ≤ 20 ∧ d ≤ 144 ∧ 0 < d := by
  have zm := z.m
  have zl := z.lo
  have zh := z.hi
  have d0 := f.least.pos
  have d1 := f.least.le T.us.length z.ok.pos z.ok.pu z.ok.pd
  have sz := f.size
  rcases form_near z.ok f with h | h
  · omega
  · omega
theorem Nz.near {T : Tl} (z : Nz T) : T.Near := ⟨z.ok, by have := z.m; omega, by have := z.c; omega, by have := z.lo; omega⟩
theorem lotD_of {T : Tl} {lo hi : Int} {m : Nat} (f : IsForm T.has T.U T.D lo hi m) (b1 : -20000 ≤ lo) (b2 : hi ≤ 20000) (mm : m ≤ 10080) : LotD lo hi (insOf T lo hi) m (resOf T.U m) (resOf T.D m) := by
  have e1 := fil_len T.has lo (hi + 1 - lo).toNat
  exact ⟨f.size, b1, b2, fun x h => mem_insOf h, fun r h => mem_res0 h, fun r h => mem_res0 h, f.least.pos, mm, by unfold insOf; omega⟩
/-- the two tellings of a turn -/
structure Couple (T1 T2 : Tl) : Prop where
  z1 : Nz T1
  z2 : Nz T2
  l : Nat.lcm T1.us.length T2.us.length ≤ 144
theorem lcm_le {a b c d : Nat} (h1 : a ∣ c) (h2 : b ∣ d) (hc : 0 < c) (hd : 0 < d) : Nat.lcm a b ≤ Nat.lcm c d := Nat.le_of_dvd (Nat.lcm_pos hc hd) (Nat.lcm_dvd (Nat.dvd_trans h1 (Nat.dvd_lcm_left c d)) (Nat.dvd_trans h2 (Nat.dvd_lcm_right c d)))
theorem mixed_nz {T1 T2 T : Tl} {op : Bool → Bool → Bool} (C : Couple T1 T2) (M : Mixed T1 T2 op T) : Nz T := by
  have a := C.z1.lo
  have b := C.z2.lo
  have c := C.z1.hi
  have d := C.z2.hi
  have e := M.lo
  have f := M.hi
  have hh : T.hi = T.lo + T.cs.length - 1 := rfl
  refine ⟨M.ok, by rw [M.len]; exact C.l, by omega, by omega, by omega⟩
theorem drawn_nz {T : Tl} (d : Drawn T) (h : -6 ≤ T.lo ∧ T.lo ≤ 6) : Nz T := by
  have a := d.m
  have b := d.c
  have hh : T.hi = T.lo + T.cs.length - 1 := rfl
  exact ⟨d.ok, by omega, by omega, h, by omega⟩
theorem couple_drawn {T1 T2 : Tl} (d1 : Drawn T1) (d2 : Drawn T2) (h1 : -6 ≤ T1.lo ∧ T1.lo ≤ 6) (h2 : -6 ≤ T2.lo ∧ T2.lo ≤ 6) : Couple T1 T2 := by
  refine ⟨drawn_nz d1 h1, drawn_nz d2 h2, ?_⟩
  have := Nat.le_of_dvd (Nat.mul_pos d1.ok.pos d2.ok.pos) (Nat.lcm_dvd (Nat.dvd_mul_right T1.us.length T2.us.length) (Nat.dvd_mul_left T2.us.length T1.us.length))
  have := Nat.mul_le_mul d1.m d2.m
  omega
theorem couple_mixed {T1 T2 T : Tl} {op : Bool → Bool → Bool} (C : Couple T1 T2) (M : Mixed T1 T2 op T) : Couple T1 T := by
  refine ⟨C.z1, mixed_nz C M, ?_⟩
  rw [M.len]
  exact Nat.le_trans (Nat.le_of_dvd (Nat.lcm_pos C.z1.ok.pos C.z2.ok.pos) (Nat.lcm_dvd (Nat.dvd_lcm_left _ _) (Nat.dvd_refl _))) C.l
theorem Mixed.same {T1 T2 T T' : Tl} {op : Bool → Bool → Bool} (a : Mixed T1 T2 op T) (b : Mixed T1 T2 op T') : T.has = T'.has ∧ T.U = T'.U ∧ T.D = T'.D := ⟨funext fun x => (a.h x).trans (b.h x).symm, funext fun x => (a.u x).trans (b.u x).symm, funext fun x => (a.d x).trans (b.d x).symm⟩
/-- the lot of what is put together stands at p -/
def MixAt (K : PySem.W.Frag) (H : Hp) (p : Addr) (T1 T2 : Tl) (op : Bool → Bool → Bool) : Prop := ∃ (T : Tl) (lo hi : Int) (d : Nat), Mixed T1 T2 op T ∧ IsForm T.has T.U T.D lo hi d ∧ LotAt (He.ga K "Lot") H p lo hi (insOf T lo hi) d (resOf T.U d) (resOf T.D d)
theorem MixAt.same {K : PySem.W.Frag} {H H' : Hp} {p : Addr} {T1 T2 : Tl} {op : Bool → Bool → Bool} (s : Same H H') (h : MixAt K H p T1 T2 op) : MixAt K H' p T1 T2 op := by
  obtain ⟨T, lo, hi, d, a, b, c⟩ := h
  exact ⟨T, lo, hi, d, a, b, c.same s⟩
/-- what a turn knows of its two tellings and their lots -/
structure Duo (K : PySem.W.Frag) (H : Hp) (p c t1 c1 u1 d1 t2 c2 u2 d2 a b q1 q2 : Addr) (T1 T2 : Tl) (lo hi lo2 hi2 : Int) (m m2 : Nat) : Prop where
  h : HandC H p c
  t1 : TellAt H t1 T1 c1 u1 d1
  t2 : TellAt H t2 T2 c2 u2 d2
  C : Couple T1 T2
  f1 : IsForm T1.has T1.U T1.D lo hi m
  f2 : IsForm T2.has T2.U T2.D lo2 hi2 m2
  la : LotAt (He.ga K "Lot") H a lo hi (insOf T1 lo hi) m (resOf T1.U m) (resOf T1.D m)
  lb : LotAt (He.ga K "Lot") H b lo2 hi2 (insOf T2 lo2 hi2) m2 (resOf T2.U m2) (resOf T2.D m2)
  q1 : FormAt H q1 lo hi (insOf T1 lo hi) m (resOf T1.U m) (resOf T1.D m)
  q2 : FormAt H q2 lo2 hi2 (insOf T2 lo2 hi2) m2 (resOf T2.U m2) (resOf T2.D m2)
section
variable {K : PySem.W.Frag} {H H' : Hp} {p c t1 c1 u1 d1 t2 c2 u2 d2 a b q1 q2 : Addr} {T1 T2 : Tl} {lo hi lo2 hi2 : Int} {m m2 : Nat}
theorem Duo.but (x : Duo K H p c t1 c1 u1 d1 t2 c2 u2 d2 a b q1 q2 T1 T2 lo hi lo2 hi2 m m2) (h : HandC H' p c) (k : But p H H') : Duo K H' p c t1 c1 u1 d1 t2 c2 u2 d2 a b q1 q2 T1 T2 lo hi lo2 hi2 m m2 :=
  ⟨h, x.t1.but x.h k, x.t2.but x.h k, x.C, x.f1, x.f2, x.la.but x.h k, x.lb.but x.h k, x.q1.but x.h k, x.q2.but x.h k⟩
theorem Duo.same (x : Duo K H p c t1 c1 u1 d1 t2 c2 u2 d2 a b q1 q2 T1 T2 lo hi lo2 hi2 m m2) (s : Same H H') : Duo K H' p c t1 c1 u1 d1 t2 c2 u2 d2 a b q1 q2 T1 T2 lo hi lo2 hi2 m m2 :=
  ⟨x.h.same s, x.t1.same s, x.t2.same s, x.C, x.f1, x.f2, x.la.same s, x.lb.same s, x.q1.same s, x.q2.same s⟩
theorem duo_two (C : Couple T1 T2) (f1 : IsForm T1.has T1.U T1.D lo hi m) (f2 : IsForm T2.has T2.U T2.D lo2 hi2 m2) (la : LotAt (He.ga K "Lot") H a lo hi (insOf T1 lo hi) m (resOf T1.U m) (resOf T1.D m)) (lb : LotAt (He.ga K "Lot") H b lo2 hi2 (insOf T2 lo2 hi2) m2 (resOf T2.U m2) (resOf T2.D m2)) :
    Two K H a b lo hi lo2 hi2 m m2 (insOf T1 lo hi) (resOf T1.U m) (resOf T1.D m) (insOf T2 lo2 hi2) (resOf T2.U m2) (resOf T2.D m2) := by
  have n1 := C.z1.form f1
  have n2 := C.z2.form f2
  exact ⟨la, lb, lotD_of f1 (by omega) (by omega) (by omega), lotD_of f2 (by omega) (by omega) (by omega), by omega⟩
theorem lcm_small (C : Couple T1 T2) (f1 : IsForm T1.has T1.U T1.D lo hi m) (f2 : IsForm T2.has T2.U T2.D lo2 hi2 m2) : Nat.lcm m m2 ≤ 144 := Nat.le_trans (lcm_le (form_dvd C.z1.ok f1) (form_dvd C.z2.ok f2) C.z1.ok.pos C.z2.ok.pos) C.l
/-- a call that puts the two lots together ends with the lot of the mixed telling -/
theorem put_end {op : Bool → Bool → Bool} {T0 : Tl} {Q : VK} (C : Couple T1 T2) (M0 : Mixed T1 T2 op T0) (f1 : IsForm T1.has T1.U T1.D lo hi m) (f2 : IsForm T2.has T2.U T2.D lo2 hi2 m2) (k : ∀ r H', Same H H' → MixAt K H' r T1 T2 op → Q (.ref r) H') :
    PutEnd K op lo hi lo2 hi2 m m2 (insOf T1 lo hi) (resOf T1.U m) (resOf T1.D m) (insOf T2 lo2 hi2) (resOf T2.U m2) (resOf T2.D m2) H Q E0 := by
  have ls := lcm_small C f1 f2
  have N0 := mixed_nz C M0
  refine ⟨fun _ T hT hU hD => ?_, fun z => by omega⟩
  have eh : T.has = T0.has := funext fun x => by rw [hT, has_of f1, has_of f2, M0.h]
  have eU : T.U = T0.U := funext fun x => by rw [hU, mem_resOf f1.least.pu f1.least.pos, mem_resOf f2.least.pu f2.least.pos, M0.u]
  have eD : T.D = T0.D := funext fun x => by rw [hD, mem_resOf f1.least.pd f1.least.pos, mem_resOf f2.least.pd f2.least.pos, M0.d]
  refine ⟨fun r l h d H' fm _ _ s la => ?_, fun l h d dd H' fm out _ _ => ?_⟩
  · unfold insOf resOf at la
    rw [eh, eU, eD] at fm la
    exact k r H' s ⟨T0, l, h, d, M0, fm, la⟩
  · rw [eh, eU, eD] at fm
    have := N0.form fm
    omega
end
end My
set_option Elab.async false
set_option linter.all false
set_option maxRecDepth 100000
set_option maxHeartbeats 8000000
namespace My
open PySem PySem.Spec PyProof.Rows L2
local macro_rules | `(tactic| walk_at "lv") => `(tactic| first | exact Or.inl rfl | exact Or.inr rfl)
def PvL (a p c : Addr) : L2.St → Hp → Prop := fun σ H2 => ∃ (y2 y3 y4 y5 y6 y7 y8 y9 y10 y11 y12 y13 y14 y15 y16 y17 y18 y19 : Option V), σ = [some (V.ref a), some (V.ref p), y2, y3, y4, y5, y6, y7, y8, y9, y10, y11, y12, y13, y14, y15, y16, y17, y18, y19] ∧ HandC H2 p c
theorem shp_pair (lo hi lo2 hi2 : Int) (i u d i2 u2 d2 : List Int) (m m2 : Nat) : PyData.canLay0 (.tuple [formD lo hi i m u d, formD lo2 hi2 i2 m2 u2 d2]) = true ∧ SeqAt.shaped (.tuple [formD lo hi i m u d, formD lo2 hi2 i2 m2 u2 d2]) = true := by
  have a := formD_lay lo hi i m u d
  have b := formD_lay lo2 hi2 i2 m2 u2 d2
  have h1 : PyData.canLayAll0 [formD lo hi i m u d, formD lo2 hi2 i2 m2 u2 d2] = true := by
    show (_ && (_ && true)) = true
    rw [a.1, b.1]
    rfl
  have dep : ∀ (lo hi : Int) (i : List Int) (m : Nat) (u d : List Int), (formD lo hi i m u d).depth = 2 := fun lo hi i m u d => by
    show max 0 (max 0 (max (PyData.depthAll (i.map PyData.int) + 1) (max 0 (max (PyData.depthAll (u.map PyData.int) + 1) (max (PyData.depthAll (d.map PyData.int) + 1) 0))))) + 1 = 2
    rw [(lay_ints i).2, (lay_ints u).2, (lay_ints d).2]
    rfl
  have h2 : PyData.depthAll [formD lo hi i m u d, formD lo2 hi2 i2 m2 u2 d2] = 2 := by
    show max _ (max _ 0) = 2
    rw [dep, dep]
    rfl
  exact ⟨h1, shp_tup h1 h2 (by decide)⟩
section
variable {P : Program} {w : World} {K : PySem.W.Frag} {mg : Str → Option Value} {base : Heap}
theorem body_X4 (S : LawSrc P w K mg base) {cdv : Value} {A : Around} {outer : List Env} {s : Shared} {H : Hp} {E : XK} {Q : VK} (hr : Room 6 (A.deeper (envOfC "law" (defScope s_law) s.heap.objs.size (He.ga K "law") cdv))) :
    ∃ tl, PSs (cxL P w K mg base cdv A outer s H E) ((forBody s_law 2).drop 13) tl ∧ ∀ (H1 : Hp) (a0 p c t1 c1 u1 d1 t2 c2 u2 d2 a b q1 q2 z : Addr) (T1 T2 : Tl) (lo hi lo2 hi2 : Int) (m m2 : Nat) (y2 y3 y4 y5 y6 y7 y13 y14 y15 y16 y17 y18 y19 : Option V) (B : L2.St → Hp → Prop), Duo K H1 p c t1 c1 u1 d1 t2 c2 u2 d2 a b q1 q2 T1 T2 lo hi lo2 hi2 m m2 → H1 z = some (.tup [.ref q1, .ref q2]) →
      tl { nx := PvL a0 p c, rt := Q, bk := B, ct := PvL a0 p c } [some (V.ref a0), some (V.ref p), y2, y3, y4, y5, y6, y7, some (V.ref t1), some (V.ref t2), some (V.ref a), some (V.ref b), some (V.ref z), y13, y14, y15, y16, y17, y18, y19] H1 := by
  have h3 : Room 3 (A.deeper (envOfC "law" (defScope s_law) s.heap.objs.size (He.ga K "law") cdv)) := hr.mono (by decide)
  have h2 : Room 2 (A.deeper (envOfC "law" (defScope s_law) s.heap.objs.size (He.ga K "law") cdv)) := hr.mono (by decide)
  have h1 : Room 1 (A.deeper (envOfC "law" (defScope s_law) s.heap.objs.size (He.ga K "law") cdv)) := hr.mono (by decide)
  refine ⟨_, (pss_cons (ps_set (i := 17) sc_law.nd rfl (by walk_at "lv") (pe_op op_sub (pe_k S.draw h2 (by rfl) pass0 (pa_cons (pv 1) (pa_cons pe_int pa_nil))) pe_int))
        (pss_cons (ps_set (i := 18) sc_law.nd rfl (by walk_at "lv") (pe_op op_add (pe_op op_sub (pv 17) pe_int) (pe_k S.draw h2 (by rfl) pass0 (pa_cons (pv 1) (pa_cons pe_int pa_nil)))))
        (pss_cons (ps_if (pt_cmpR (op_neD hr.units) (pe_k S.mem h3 (by rfl) pass0 (pa_cons (pv 10) (pa_cons (pv 17) (pa_cons (pv 18) pa_nil)))) (pe_callTy call_tuple_of (by rfl) S.n.tuple (by decide +kernel) (pa_cons (pe_lc (own := [("_law_n", 19)]) (g := gName 19) rfl sc_law.nd (pi_range2 (by rfl) S.n.range (pa_cons (pv 17) (pa_cons (pe_op op_add (pv 18) pe_int) pa_nil))) (blkOk_by (N := N_law) (sc := defScope s_law) (by decide +kernel)) (fun _ _ _ _ _ => (pg_name (i := 19) sc_law.nd rfl (by walk_at "lv"))) (fun _ _ _ _ _ => (pts_one (pt_val (pe_k S.has h1 (by rfl) pass0 (pa_cons (pv 8) (pa_cons (pv 19) pa_nil)))))) (fun _ _ _ _ _ => (pv 19))) pa_nil)) (nomark _)) (pss_one (ps_ret pe_bl)) pss_nil)
        (pss_one (ps_if (pt_cmpR (op_neD hr.units) (pe_tup (pa_cons (pe_k S.seen h1 (by rfl) pass0 (pa_cons (pv 10) pa_nil)) (pa_cons (pe_k S.seen h1 (by rfl) pass0 (pa_cons (pv 11) pa_nil)) pa_nil))) (pv 12) (nomark _)) (pss_one (ps_ret pe_bl)) pss_nil))))), ?_⟩
  intro H1 a0 p c t1 c1 u1 d1 t2 c2 u2 d2 a b q1 q2 z T1 T2 lo hi lo2 hi2 m m2 y2 y3 y4 y5 y6 y7 y13 y14 y15 y16 y17 y18 y19 B x ez
  have np : ∀ {H : Hp} {v : Addr} {xs : List V}, HandC H p c → H v = some (.tup xs) → v ≠ p := fun h e => h.np e fun _ _ _ _ q => by cases q
  refine ⟨_, rfl, p, c, 41, rfl, x.h, ⟨by decide, by decide⟩, fun r H2 r0 r1 hh2 b2 => ⟨_, _, rfl, rfl, ?_⟩⟩
  have x2 := x.but hh2 b2
  have ez2 := b2 _ _ (np x.h ez) ez
  refine ⟨_, rfl, _, _, rfl, rfl, _, rfl, p, c, 30, rfl, hh2, ⟨by decide, by decide⟩, fun r' H3 r0' r1' hh3 b3 => ⟨_, _, rfl, rfl, ?_⟩⟩
  have x3 := x2.but hh3 b3
  have ez3 := b3 _ _ (np hh2 ez2) ez2
  generalize hlow : r - 20 = low
  generalize hhigh : low - 3 + r' = high
  have bb : -1000 ≤ low ∧ high ≤ 1000 ∧ high - low < 100 := by omega
  have n1 := x3.C.z1.form x3.f1
  have n2 := x3.C.z2.form x3.f2
  have L1 := lotD_of x3.f1 (by omega) (by omega) (by omega)
  dsimp only
  rw [hlow, hhigh]
  refine ⟨_, rfl, _, rfl, _, rfl, a, low, high, lo, hi, m, _, _, _, rfl, x3.la, L1, ⟨bb.1, bb.2.1⟩, fun v H4 s4 ev => ?_⟩
  have x4 := x3.same s4
  have fe : fil (lotHas lo hi (insOf T1 lo hi) m (resOf T1.U m) (resOf T1.D m)) low (high + 1 - low).toNat = fil T1.has low (high + 1 - low).toNat := fil_cong fun y _ _ => has_of x.f1 y
  rw [fe] at ev
  refine ⟨_, rfl, _, rfl, _, _, rfl, rfl, _, _, rfl, ⟨by omega, by omega, by omega, by omega⟩, fun D hD => ?_⟩
  refine lc_it walk_range (fun i H5 => H5 D = some (.lst ((fil T1.has low i).map V.int)) ∧ Same H4 H5) ⟨upd_same, same_new (Same.refl H4) hD⟩ (fun i H5 _ h => trivial) ?_ ?_
  · rintro i y H5 H6 hi' ⟨eD, s5⟩ ⟨rfl, rfl⟩
    refine ⟨rfl, _, rfl, _, rfl, t1, c1, u1, d1, T1, _, rfl, x4.t1.same s5, x4.C.z1.ok, _, rfl, ?_⟩
    cases hb : T1.has (low + (i : Int)) with
    | false =>
      refine iteF ⟨?_, s5⟩
      rw [fil_neg (by rw [hb]; exact Bool.false_ne_true)]
      exact eD
    | true =>
      refine iteT ⟨_, rfl, _, eD, smallB (by rw [List.length_map]; exact Nat.le_trans (fil_len _ _ _) (by omega)), ?_, fun b o e => ?_⟩
      · rw [fil_pos hb, List.map_append]
        exact upd_same
      · rw [upd_ne (ne_of_none e hD)]
        exact s5 b o e
  rintro H5 ⟨eD, s5⟩
  refine ⟨D, _, rfl, .inl ⟨SqL.of eD, fun l hl => ?_⟩⟩
  have s6 := same_new (o := .tup ((fil T1.has low (high + 1 - low).toNat).map V.int)) s5 hl
  refine ⟨_, _, .tup (SqT.of (s6 _ _ ev)) (dp_ints _), .tup (SqT.of upd_same) (dp_ints _), shp_ti _, shp_ti _, _, rfl, ?_⟩
  rw [eqv_ti, decide_eq_true rfl]
  have x6 := x4.same s6
  have ez6 := s6 _ _ (s4 _ _ ez3)
  refine iteF ⟨_, rfl, a, lo, hi, m, _, _, _, rfl, x6.la, fun v1 H7 s7 g1 => ⟨_, rfl, b, lo2, hi2, m2, _, _, _, rfl, (x6.same s7).lb, fun v2 H8 s8 g2 => ⟨(by show 2 ≤ sizeLine; decide), fun tz htz => ?_⟩⟩⟩
  have s9 := same_new (o := .tup [V.ref v1, V.ref v2]) (Same.refl H8) htz
  have x9 := ((x6.same s7).same s8).same s9
  have ez9 := s9 _ _ (s8 _ _ (s7 _ _ ez6))
  refine ⟨_, rfl, _, _, .tup (SqT.of upd_same) (.cons ((g1.same s8).same s9).dp (.cons (g2.same s9).dp .nil)), .tup (SqT.of ez9) (.cons x9.q1.dp (.cons x9.q2.dp .nil)), (shp_pair _ _ _ _ _ _ _ _ _ _ _ _).2, (shp_pair _ _ _ _ _ _ _ _ _ _ _ _).2, _, rfl, ?_⟩
  rw [PySem.SeqAt.eqv_refl _ (shp_pair _ _ _ _ _ _ _ _ _ _ _ _).1]
  refine iteF ?_
  exact ⟨_, _, _, _, _, _, _, _, _, _, _, _, _, _, _, _, _, _, rfl, x9.h⟩
end
end My
set_option Elab.async false
set_option linter.all false
set_option maxRecDepth 100000
set_option maxHeartbeats 8000000
namespace My
open PySem PySem.Spec PyProof.Rows L2
local macro_rules | `(tactic| walk_at "lv") => `(tactic| first | exact Or.inl rfl | exact Or.inr rfl)
/-- what the law's loop has found after i sizes -/
def Found (f : Int → Bool) (i : Nat) (y : V) : Prop := (y = .non ∧ ∀ n : Int, n.natAbs < i → f n = false) ∨ ∃ a : Int, y = .int a ∧ IsLeast f a
theorem duo_least {T1 T2 : Tl} (C : Couple T1 T2) {n : Int} (h : opL (T1.has n) (T2.has n) = true) : ∃ y : Int, y.natAbs < T1.us.length * T2.us.length + 40 ∧ opL (T1.has y) (T2.has y) = true := by
  have L0 : 0 < T1.us.length * T2.us.length := Nat.mul_pos C.z1.ok.pos C.z2.ok.pos
  have a := C.z1.lo
  have b := C.z2.lo
  have c := C.z1.hi
  have d := C.z2.hi
  have e1 : T1.hi = T1.lo + T1.cs.length - 1 := rfl
  have e2 : T2.hi = T2.lo + T2.cs.length - 1 := rfl
  have cg : ∀ {d : Nat} {f : Int → Bool}, Per f d → d ∣ T1.us.length * T2.us.length → ∀ {x y : Int}, x % ((T1.us.length * T2.us.length : Nat) : Int) = y % ((T1.us.length * T2.us.length : Nat) : Int) → f x = f y := fun hp hd x y e => hp.cong (by rw [← Int.emod_emod_of_dvd x (Int.ofNat_dvd.mpr hd), ← Int.emod_emod_of_dvd y (Int.ofNat_dvd.mpr hd), e])
  have d1 : T1.us.length ∣ T1.us.length * T2.us.length := Nat.dvd_mul_right _ _
  have d2 : T2.us.length ∣ T1.us.length * T2.us.length := Nat.dvd_mul_left _ _
  obtain ⟨y, y1, y2, y3⟩ := near_one (f := fun n => opL (T1.has n) (T2.has n)) (B := 20) (L := T1.us.length * T2.us.length) L0 (by decide) (fun x y e h => by
    rcases h with h | h
    · rw [Tl.above (T := T1) (by omega), Tl.above (T := T1) (n := y) (by omega), Tl.above (T := T2) (by omega), Tl.above (T := T2) (n := y) (by omega), cg C.z1.ok.pu d1 e, cg C.z2.ok.pu d2 e]
    · rw [Tl.below (T := T1) (by omega), Tl.below (T := T1) (n := y) (by omega), Tl.below (T := T2) (by omega), Tl.below (T := T2) (n := y) (by omega), cg C.z1.ok.pd d1 e, cg C.z2.ok.pd d2 e]) h
  exact ⟨y, by omega, y3⟩
section
variable {P : Program} {w : World} {K : PySem.W.Frag} {mg : Str → Option Value} {base : Heap}
theorem body_X3 (S : LawSrc P w K mg base) {cdv : Value} {A : Around} {outer : List Env} {s : Shared} {H : Hp} {E : XK} {Q : VK} (hr : Room 6 (A.deeper (envOfC "law" (defScope s_law) s.heap.objs.size (He.ga K "law") cdv))) :
    ∃ tl, PSs (cxL P w K mg base cdv A outer s H E) ((forBody s_law 2).drop 8) tl ∧ ∀ (H1 : Hp) (a0 p c t1 c1 u1 d1 t2 c2 u2 d2 a b q1 q2 z : Addr) (T1 T2 : Tl) (lo hi lo2 hi2 : Int) (m m2 : Nat) (y2 y3 y4 y5 y6 y7 y13 y14 y15 y16 y17 y18 y19 : Option V) (B : L2.St → Hp → Prop), Duo K H1 p c t1 c1 u1 d1 t2 c2 u2 d2 a b q1 q2 T1 T2 lo hi lo2 hi2 m m2 → H1 z = some (.tup [.ref q1, .ref q2]) →
      tl { nx := PvL a0 p c, rt := Q, bk := B, ct := PvL a0 p c } [some (V.ref a0), some (V.ref p), y2, y3, y4, y5, y6, y7, some (V.ref t1), some (V.ref t2), some (V.ref a), some (V.ref b), some (V.ref z), y13, y14, y15, y16, y17, y18, y19] H1 := by
  have h4 : Room 4 (A.deeper (envOfC "law" (defScope s_law) s.heap.objs.size (He.ga K "law") cdv)) := hr.mono (by decide)
  have h1 : Room 1 (A.deeper (envOfC "law" (defScope s_law) s.heap.objs.size (He.ga K "law") cdv)) := hr.mono (by decide)
  obtain ⟨tn, dtn, nxt⟩ := body_X4 S (outer := outer) (H := H) (E := E) (Q := Q) hr
  refine ⟨_, (pss_cons (ps_set (i := 14) sc_law.nd rfl (by walk_at "lv") (pe_k S.wi h4 (by rfl) (passE (P := P) (w := w)) (pa_cons (pv 10) (pa_cons (pv 11) pa_nil))))
        (pss_cons (ps_set (i := 15) sc_law.nd rfl (by walk_at "lv") (pe_op op_add (pe_op op_mul (pe_ix ix_list (pv 8) pe_int (fun _ _ => rfl)) (pe_ix ix_list (pv 9) pe_int (fun _ _ => rfl))) pe_int))
        (pss_cons (ps_set (i := 5) sc_law.nd rfl (by walk_at "lv") pe_non)
        (pss_cons (ps_for PassesOwn.never rfl (pi_range1 (by rfl) S.n.range (pa_cons (pv 15) pa_nil)) (pg_name (i := 16) sc_law.nd rfl (by walk_at "lv")) (pss_cons (ps_if (PW.pt (pw_and (pt_cmpR op_isN (pv 5) pe_non (nomark _)) (pw_and (pt_val (pe_k S.has h1 (by rfl) pass0 (pa_cons (pv 8) (pa_cons (pe_un un_neg (pv 16)) pa_nil)))) (pw_and1 (pt_not (pt_val (pe_k S.has h1 (by rfl) pass0 (pa_cons (pv 9) (pa_cons (pe_un un_neg (pv 16)) pa_nil))))))))) (pss_one (ps_set (i := 5) sc_law.nd rfl (by walk_at "lv") (pe_un un_neg (pv 16)))) pss_nil)
        (pss_one (ps_if (PW.pt (pw_and (pt_cmpR op_isN (pv 5) pe_non (nomark _)) (pw_and (pt_val (pe_k S.has h1 (by rfl) pass0 (pa_cons (pv 8) (pa_cons (pv 16) pa_nil)))) (pw_and1 (pt_not (pt_val (pe_k S.has h1 (by rfl) pass0 (pa_cons (pv 9) (pa_cons (pv 16) pa_nil))))))))) (pss_one (ps_set (i := 5) sc_law.nd rfl (by walk_at "lv") (pv 16))) pss_nil))))
        (pss_cons (ps_if (PW.pt (pw_or (pt_cmpR op_ne (pv 14) (pv 5) (nomark _)) (pw_or1 (pt_val (pe_callB call_isi (by rfl) S.n.isinstance boot_isinstance (pa_cons (pv 14) (pa_cons (pe_bltn (v := .ty "bool") (by rfl) S.n.bool (by decide +kernel) rfl) pa_nil))))))) (pss_one (ps_ret pe_bl)) pss_nil) dtn))))), ?_⟩
  intro H1 a0 p c t1 c1 u1 d1 t2 c2 u2 d2 a b q1 q2 z T1 T2 lo hi lo2 hi2 m m2 y2 y3 y4 y5 y6 y7 y13 y14 y15 y16 y17 y18 y19 B x ez
  have ls := lcm_small x.C x.f1 x.f2
  have z1m := x.C.z1.m
  have z2m := x.C.z2.m
  refine ⟨_, rfl, _, rfl, a, b, lo, hi, lo2, hi2, m, m2, _, _, _, _, _, _, rfl, duo_two x.C x.f1 x.f2 x.la x.lb, fun _ v H2 s2 wr => ?_, fun q => by omega⟩
  have x2 := x.same s2
  have ez2 := s2 _ _ ez
  have wr : WiRes (fun n => opL (T1.has n) (T2.has n)) v := by
    have e : (fun n => opL (lotHas lo hi (insOf T1 lo hi) m (resOf T1.U m) (resOf T1.D m) n) (lotHas lo2 hi2 (insOf T2 lo2 hi2) m2 (resOf T2.U m2) (resOf T2.D m2) n)) = fun n => opL (T1.has n) (T2.has n) := funext fun n => by rw [has_of x.f1, has_of x.f2]
    rw [e] at wr
    exact wr
  have MB : T1.us.length * T2.us.length ≤ 20736 := Nat.mul_le_mul z1m z2m
  have me : (T1.us.length : Int) * (T2.us.length : Int) = ((T1.us.length * T2.us.length : Nat) : Int) := by push_cast; rfl
  refine ⟨_, rfl, t1, _, _, _, rfl, rfl, SqL.of x2.t1.t, rfl, _, rfl, t2, _, _, _, rfl, rfl, SqL.of x2.t2.t, rfl, _, _, rfl, rfl, .inl ⟨by omega, by omega⟩, _, _, rfl, rfl, ?_⟩
  dsimp only
  rw [me]
  have dl := fun {n : Int} => duo_least x.C (n := n)
  generalize T1.us.length * T2.us.length = N at *
  refine ⟨_, rfl, _, rfl, by omega, by omega, ?_⟩
  rw [show ((N : Int) + 40).toNat = N + 40 by omega]
  refine for_range (fun i σ H3 => ∃ (y : V) (y16 : Option V), σ = [some (V.ref a0), some (V.ref p), y2, y3, y4, some y, y6, y7, some (V.ref t1), some (V.ref t2), some (V.ref a), some (V.ref b), some (V.ref z), y13, some v, some (V.int ((N : Int) + 40)), y16, y17, y18, y19] ∧ H3 = H2 ∧ Found (fun n => opL (T1.has n) (T2.has n)) i y) ⟨_, _, rfl, rfl, .inl ⟨rfl, fun n hn => absurd hn (Nat.not_lt_zero _)⟩⟩ ?_ ?_
  · rintro i σ H3 hi' ⟨y, y16, rfl, rfl, fd⟩
    rw [Int.zero_add]
    have il : i < N + 40 := hi'
    -- the second question, asked with y5
    rcases fd with ⟨rfl, no⟩ | ⟨v0, rfl, lst⟩
    · refine ⟨_, rfl, rfl, _, rfl, ?_⟩
      rw [show decide (V.non = V.non) = true from decide_eq_true rfl]
      refine iteT ⟨_, rfl, _, rfl, _, rfl, t1, c1, u1, d1, T1, _, rfl, x2.t1, x2.C.z1.ok, _, rfl, ?_⟩
      have fin0 : opL (T1.has (-(i : Int))) (T2.has (-(i : Int))) = false → opL (T1.has (i : Int)) (T2.has (i : Int)) = false → Found (fun n => opL (T1.has n) (T2.has n)) (i + 1) V.non := fun e1 e2 => .inl ⟨rfl, fun n hn => by
        rcases Nat.lt_or_ge n.natAbs i with q | q
        · exact no n q
        · rcases (show n = (i : Int) ∨ n = -(i : Int) by omega) with w | w
          · rw [w]; exact e2
          · rw [w]; exact e1⟩
      have fin1 : opL (T1.has (-(i : Int))) (T2.has (-(i : Int))) = true → Found (fun n => opL (T1.has n) (T2.has n)) (i + 1) (V.int (-(i : Int))) := fun e1 => .inr ⟨_, rfl, e1, fun n hn => by
        rcases Nat.lt_or_ge n.natAbs i with q | q
        · have hn : opL (T1.has n) (T2.has n) = true := hn
          have := no n q
          dsimp only at this
          rw [hn] at this
          cases this
        · omega⟩
      have fin2 : opL (T1.has (-(i : Int))) (T2.has (-(i : Int))) = false → opL (T1.has (i : Int)) (T2.has (i : Int)) = true → Found (fun n => opL (T1.has n) (T2.has n)) (i + 1) (V.int (i : Int)) := fun e1 e2 => .inr ⟨_, rfl, e2, fun n hn => by
        have hn : opL (T1.has n) (T2.has n) = true := hn
        rcases Nat.lt_or_ge n.natAbs i with q | q
        · have := no n q
          dsimp only at this
          rw [hn] at this
          cases this
        · by_cases w : n = -(i : Int)
          · rw [w, e1] at hn; cases hn
          · omega⟩
      cases f1 : T1.has (-(i : Int)) with
      | false =>
        have e1 : opL (T1.has (-(i : Int))) (T2.has (-(i : Int))) = false := by unfold opL; rw [f1]; rfl
        refine iteF ?_
        refine ⟨_, rfl, rfl, _, rfl, ?_⟩
        rw [show decide (V.non = V.non) = true from decide_eq_true rfl]
        refine iteT ⟨_, rfl, _, rfl, t1, c1, u1, d1, T1, _, rfl, x2.t1, x2.C.z1.ok, _, rfl, ?_⟩
        cases g1 : T1.has (i : Int) with
        | false => exact iteF ⟨_, _, rfl, rfl, fin0 e1 (by unfold opL; rw [g1]; rfl)⟩
        | true =>
          refine iteT ⟨_, rfl, _, rfl, t2, c2, u2, d2, T2, _, rfl, x2.t2, x2.C.z2.ok, _, rfl, ?_⟩
          cases g2 : T2.has (i : Int) with
          | true => exact iteF ⟨_, _, rfl, rfl, fin0 e1 (by unfold opL; rw [g1, g2]; rfl)⟩
          | false => exact iteT ⟨_, rfl, _, _, rfl, rfl, fin2 e1 (by unfold opL; rw [g1, g2]; rfl)⟩
      | true =>
        refine iteT ⟨_, rfl, _, rfl, _, rfl, t2, c2, u2, d2, T2, _, rfl, x2.t2, x2.C.z2.ok, _, rfl, ?_⟩
        cases f2 : T2.has (-(i : Int)) with
        | true =>
          have e1 : opL (T1.has (-(i : Int))) (T2.has (-(i : Int))) = false := by unfold opL; rw [f1, f2]; rfl
          refine iteF ?_
          refine ⟨_, rfl, rfl, _, rfl, ?_⟩
          rw [show decide (V.non = V.non) = true from decide_eq_true rfl]
          refine iteT ⟨_, rfl, _, rfl, t1, c1, u1, d1, T1, _, rfl, x2.t1, x2.C.z1.ok, _, rfl, ?_⟩
          cases g1 : T1.has (i : Int) with
          | false => exact iteF ⟨_, _, rfl, rfl, fin0 e1 (by unfold opL; rw [g1]; rfl)⟩
          | true =>
            refine iteT ⟨_, rfl, _, rfl, t2, c2, u2, d2, T2, _, rfl, x2.t2, x2.C.z2.ok, _, rfl, ?_⟩
            cases g2 : T2.has (i : Int) with
            | true => exact iteF ⟨_, _, rfl, rfl, fin0 e1 (by unfold opL; rw [g1, g2]; rfl)⟩
            | false => exact iteT ⟨_, rfl, _, _, rfl, rfl, fin2 e1 (by unfold opL; rw [g1, g2]; rfl)⟩
        | false =>
          have e1 : opL (T1.has (-(i : Int))) (T2.has (-(i : Int))) = true := by unfold opL; rw [f1, f2]; rfl
          refine iteT ⟨_, rfl, _, rfl, _, rfl, rfl, _, rfl, ?_⟩
          rw [show decide (V.int (-(i : Int)) = V.non) = false from decide_eq_false (fun z => nomatch z)]
          exact iteF ⟨_, _, rfl, rfl, fin1 e1⟩
    · refine ⟨_, rfl, rfl, _, rfl, ?_⟩
      rw [show decide (V.int v0 = V.non) = false from decide_eq_false (fun z => nomatch z)]
      refine iteF ⟨_, rfl, rfl, _, rfl, ?_⟩
      rw [show decide (V.int v0 = V.non) = false from decide_eq_false (fun z => nomatch z)]
      exact iteF ⟨_, _, rfl, rfl, .inr ⟨v0, rfl, lst⟩⟩
  · rintro σ H3 ⟨y, y16, rfl, rfl, fd⟩
    have wy : WiRes (fun n => opL (T1.has n) (T2.has n)) y := by
      rcases fd with ⟨rfl, no⟩ | h
      · refine .inl ⟨rfl, fun n => Bool.eq_false_iff.mpr fun q => ?_⟩
        obtain ⟨w, w1, w2⟩ := dl q
        have w3 : opL (T1.has w) (T2.has w) = false := no w w1
        rw [w3] at w2
        cases w2
      · exact .inr h
    have vy : v = y := wr.unique (fun _ => rfl) wy
    subst vy
    rcases wr with ⟨rfl, _⟩ | ⟨v0, rfl, _⟩
    · refine ⟨_, rfl, _, rfl, rfl, _, rfl, ?_⟩
      rw [show (!decide (V.non = V.non)) = false by simp]
      refine iteF ⟨_, rfl, .non, .ty "bool", _, _, false, rfl, .ty "bool", .base .non, kit_ty (by decide +kernel), _, rfl, iteF ?_⟩
      exact nxt H3 a0 p c t1 c1 u1 d1 t2 c2 u2 d2 a b q1 q2 z T1 T2 lo hi lo2 hi2 m m2 _ _ _ _ _ _ _ _ _ _ _ _ _ B x2 ez2
    · refine ⟨_, rfl, _, rfl, rfl, _, rfl, ?_⟩
      rw [show (!decide (V.int v0 = V.int v0)) = false by simp]
      refine iteF ⟨_, rfl, .int v0, .ty "bool", _, _, false, rfl, .ty "bool", .base (.int v0), kit_ty (by decide +kernel), _, rfl, iteF ?_⟩
      exact nxt H3 a0 p c t1 c1 u1 d1 t2 c2 u2 d2 a b q1 q2 z T1 T2 lo hi lo2 hi2 m m2 _ _ _ _ _ _ _ _ _ _ _ _ _ B x2 ez2
end
end My
set_option Elab.async false
set_option linter.all false
set_option maxRecDepth 100000
set_option maxHeartbeats 8000000
namespace My
open PySem PySem.Spec PyProof.Rows L2
local macro_rules | `(tactic| walk_at "lv") => `(tactic| first | exact Or.inl rfl | exact Or.inr rfl)
section
variable {P : Program} {w : World} {K : PySem.W.Frag} {mg : Str → Option Value} {base : Heap}
theorem body_X2 (S : LawSrc P w K mg base) {cdv : Value} {A : Around} {outer : List Env} {s : Shared} {H : Hp} {E : XK} {Q : VK} (hr : Room 6 (A.deeper (envOfC "law" (defScope s_law) s.heap.objs.size (He.ga K "law") cdv))) :
    ∃ tl, PSs (cxL P w K mg base cdv A outer s H E) ((forBody s_law 2).drop 7) tl ∧ ∀ (H1 : Hp) (a0 p c t1 c1 u1 d1 t2 c2 u2 d2 a b q1 q2 z y r0 r1 r2 : Addr) (T1 T2 : Tl) (lo hi lo2 hi2 : Int) (m m2 : Nat) (y2 y3 y4 y5 y6 y7 y14 y15 y16 y17 y18 y19 : Option V) (B : L2.St → Hp → Prop), Duo K H1 p c t1 c1 u1 d1 t2 c2 u2 d2 a b q1 q2 T1 T2 lo hi lo2 hi2 m m2 → H1 z = some (.tup [.ref q1, .ref q2]) →
      H1 y = some (.tup [.ref r0, .ref r1, .ref r2]) → MixAt K H1 r0 T1 T2 opE → MixAt K H1 r1 T1 T2 opB → MixAt K H1 r2 T1 T2 opL →
      tl { nx := PvL a0 p c, rt := Q, bk := B, ct := PvL a0 p c } [some (V.ref a0), some (V.ref p), y2, y3, y4, y5, y6, y7, some (V.ref t1), some (V.ref t2), some (V.ref a), some (V.ref b), some (V.ref z), some (V.ref y), y14, y15, y16, y17, y18, y19] H1 := by
  have h3 : Room 3 (A.deeper (envOfC "law" (defScope s_law) s.heap.objs.size (He.ga K "law") cdv)) := hr.mono (by decide)
  have h2 : Room 2 (A.deeper (envOfC "law" (defScope s_law) s.heap.objs.size (He.ga K "law") cdv)) := hr.mono (by decide)
  obtain ⟨tn, dtn, nxt⟩ := body_X3 S (outer := outer) (H := H) (E := E) (Q := Q) hr
  refine ⟨_, (pss_cons (ps_for PassesOwn.never rfl (pi_range1 (by rfl) S.n.range (pa_cons pe_int pa_nil)) (pg_name (i := 6) sc_law.nd rfl (by walk_at "lv")) (pss_one (ps_if (pt_not (pt_val (pe_k S.isf h3 (by rfl) pass0 (pa_cons (pe_ix ix_tup (pv 13) (pv 6) (fun _ _ => rfl)) (pa_cons (pe_k S.form h2 (by rfl) pass0 (pa_cons (pe_k S.mx h2 (by rfl) pass0 (pa_cons (pv 8) (pa_cons (pv 9) (pa_cons (pv 6) pa_nil)))) pa_nil)) pa_nil))))) (pss_one (ps_ret pe_bl)) pss_nil))) dtn), ?_⟩
  intro H1 a0 p c t1 c1 u1 d1 t2 c2 u2 d2 a b q1 q2 z y r0 r1 r2 T1 T2 lo hi lo2 hi2 m m2 y2 y3 y4 y5 y6 y7 y14 y15 y16 y17 y18 y19 B x ez ey m0 m1 m2'
  refine ⟨3, rfl, by decide, by decide, for_range (n := 3) (fun i σ H2 => ∃ y6 : Option V, σ = [some (V.ref a0), some (V.ref p), y2, y3, y4, y5, y6, y7, some (V.ref t1), some (V.ref t2), some (V.ref a), some (V.ref b), some (V.ref z), some (V.ref y), y14, y15, y16, y17, y18, y19] ∧ Same H1 H2) ⟨_, rfl, Same.refl H1⟩ ?_ ?_⟩
  · rintro way σ H2 hw ⟨z6, rfl, s2⟩
    rw [Int.zero_add]
    have x2 := x.same s2
    obtain ⟨r, er, mr⟩ : ∃ r, atI [V.ref r0, V.ref r1, V.ref r2] (way : Int) = some (.ref r) ∧ MixAt K H2 r T1 T2 (opOf way) := by
      have : way = 0 ∨ way = 1 ∨ way = 2 := by omega
      rcases this with rfl | rfl | rfl
      · exact ⟨r0, rfl, m0.same s2⟩
      · exact ⟨r1, rfl, m1.same s2⟩
      · exact ⟨r2, rfl, m2'.same s2⟩
    have z1 := x.C.z1
    have z2 := x.C.z2
    refine ⟨_, rfl, _, rfl, y, _, _, _, rfl, rfl, SqT.of (s2 _ _ ey), er, ?_⟩
    refine ⟨_, rfl, _, rfl, _, rfl, t1, c1, u1, d1, t2, c2, u2, d2, T1, T2, (way : Int), rfl, ⟨by omega, by omega⟩, x2.t1, x2.t2, z1.ok, z2.ok, ⟨by have := z1.m; omega, by have := z2.m; omega⟩, ⟨by have := z1.c; omega, by have := z2.c; omega⟩, by have := z1.lo; have := z2.lo; omega, fun t c' u d T H3 s3 ta mt => ?_⟩
    have nz := mixed_nz x.C mt
    dsimp only [tNil]
    refine ⟨t, c', u, d, T, rfl, ta, nz.near, by have := nz.m; omega, by have := nz.c; omega, fun q lo' hi' d' H4 fm _ _ s4 fa => ?_, fun lo' hi' d' H4 fm out _ => ?_⟩
    · obtain ⟨T0, l0, h0, e0, M0, f0, la0⟩ := mr
      obtain ⟨g1, g2, g3⟩ := M0.same mt
      unfold insOf resOf at la0
      rw [g1, g2, g3] at f0 la0
      obtain ⟨rfl, rfl, rfl⟩ := f0.unique fm
      refine ⟨r, q, l0, h0, e0, _, _, _, rfl, (la0.same s3).same s4, fa, rows_ok, fun H5 s5 => ⟨_, rfl, iteF ⟨_, rfl, s2.trans (s3.trans (s4.trans s5))⟩⟩⟩
    · have := nz.form fm
      omega
  · rintro σ H2 ⟨z6, rfl, s2⟩
    exact nxt H2 a0 p c t1 c1 u1 d1 t2 c2 u2 d2 a b q1 q2 z T1 T2 lo hi lo2 hi2 m m2 _ _ _ _ _ _ _ _ _ _ _ _ _ B (x.same s2) (s2 _ _ ez)
theorem body_X1 (S : LawSrc P w K mg base) {cdv : Value} {A : Around} {outer : List Env} {s : Shared} {H : Hp} {E : XK} {Q : VK} (hr : Room 6 (A.deeper (envOfC "law" (defScope s_law) s.heap.objs.size (He.ga K "law") cdv))) :
    ∃ tl, PSs (cxL P w K mg base cdv A outer s H E) ((forBody s_law 2).drop 3) tl ∧ ∀ (H1 : Hp) (a0 p c t1 c1 u1 d1 t2 c2 u2 d2 : Addr) (T1 T2 : Tl) (y2 y3 y4 y5 y6 y7 y10 y11 y12 y13 y14 y15 y16 y17 y18 y19 : Option V) (B : L2.St → Hp → Prop), HandC H1 p c → TellAt H1 t1 T1 c1 u1 d1 → TellAt H1 t2 T2 c2 u2 d2 → Couple T1 T2 →
      tl { nx := PvL a0 p c, rt := Q, bk := B, ct := PvL a0 p c } [some (V.ref a0), some (V.ref p), y2, y3, y4, y5, y6, y7, some (V.ref t1), some (V.ref t2), y10, y11, y12, y13, y14, y15, y16, y17, y18, y19] H1 := by
  have h5 : Room 5 (A.deeper (envOfC "law" (defScope s_law) s.heap.objs.size (He.ga K "law") cdv)) := hr.mono (by decide)
  have h1 : Room 1 (A.deeper (envOfC "law" (defScope s_law) s.heap.objs.size (He.ga K "law") cdv)) := hr.mono (by decide)
  obtain ⟨tn, dtn, nxt⟩ := body_X2 S (outer := outer) (H := H) (E := E) (Q := Q) hr
  refine ⟨_, (pss_cons (ps_set (i := 10) sc_law.nd rfl (by walk_at "lv") (pe_k S.lo h5 (by rfl) pass0 (pa_cons (pv 8) pa_nil)))
        (pss_cons (ps_set (i := 11) sc_law.nd rfl (by walk_at "lv") (pe_k S.lo h5 (by rfl) pass0 (pa_cons (pv 9) pa_nil)))
        (pss_cons (ps_set (i := 12) sc_law.nd rfl (by walk_at "lv") (pe_tup (pa_cons (pe_k S.seen h1 (by rfl) pass0 (pa_cons (pv 10) pa_nil)) (pa_cons (pe_k S.seen h1 (by rfl) pass0 (pa_cons (pv 11) pa_nil)) pa_nil))))
        (pss_cons (ps_set (i := 13) sc_law.nd rfl (by walk_at "lv") (pe_tup (pa_cons (pe_k S.either h5 (by rfl) (passE (P := P) (w := w)) (pa_cons (pv 10) (pa_cons (pv 11) pa_nil))) (pa_cons (pe_k S.both h5 (by rfl) (passE (P := P) (w := w)) (pa_cons (pv 10) (pa_cons (pv 11) pa_nil))) (pa_cons (pe_k S.less h5 (by rfl) (passE (P := P) (w := w)) (pa_cons (pv 10) (pa_cons (pv 11) pa_nil))) pa_nil))))) dtn)))), ?_⟩
  intro H1 a0 p c t1 c1 u1 d1 t2 c2 u2 d2 T1 T2 y2 y3 y4 y5 y6 y7 y10 y11 y12 y13 y14 y15 y16 y17 y18 y19 B hh A1 A2 C
  obtain ⟨lo, hi, m, f1⟩ := form_ex C.z1.ok
  obtain ⟨lo2, hi2, m2, f2⟩ := form_ex C.z2.ok
  have n1 := C.z1.form f1
  have n2 := C.z2.form f2
  have b1 := C.z1.lo
  have b2 := C.z2.lo
  have b3 := C.z1.hi
  have b4 := C.z2.hi
  have b5 := C.z1.m
  have b6 := C.z2.m
  have b7 := C.z1.c
  have b8 := C.z2.c
  refine ⟨_, rfl, t1, c1, u1, d1, T1, lo, hi, m, rfl, A1, C.z1.near, ⟨by omega, by omega⟩, by omega, by omega, f1, by omega, by omega, fun a H2 s2 la => ?_⟩
  refine ⟨_, rfl, t2, c2, u2, d2, T2, lo2, hi2, m2, rfl, A2.same s2, C.z2.near, ⟨by omega, by omega⟩, by omega, by omega, f2, by omega, by omega, fun b H3 s3 lb => ?_⟩
  have la := la.same s3
  refine ⟨_, rfl, a, lo, hi, m, _, _, _, rfl, la, fun q1 H4 s4 g1 => ⟨_, rfl, b, lo2, hi2, m2, _, _, _, rfl, lb.same s4, fun q2 H5 s5 g2 => ⟨(by show 2 ≤ sizeLine; decide), fun z hz => ?_⟩⟩⟩
  have s6 := same_new (o := .tup [V.ref q1, V.ref q2]) (Same.refl H5) hz
  have s26 := (s2.trans (s3.trans (s4.trans s5))).trans s6
  have x : Duo K (upd H5 z (.tup [V.ref q1, V.ref q2])) p c t1 c1 u1 d1 t2 c2 u2 d2 a b q1 q2 T1 T2 lo hi lo2 hi2 m m2 := ⟨hh.same s26, A1.same s26, A2.same s26, C, f1, f2, ((la.same s4).same s5).same s6, ((lb.same s4).same s5).same s6, (g1.same s5).same s6, g2.same s6⟩
  have ez : (upd H5 z (.tup [V.ref q1, V.ref q2])) z = some (.tup [.ref q1, .ref q2]) := upd_same
  generalize upd H5 z (.tup [V.ref q1, V.ref q2]) = H6 at x ez
  have mm := fun op => mix_mixed (T1 := T1) (T2 := T2) (op := op) (low := if T2.lo < T1.lo then T2.lo else T1.lo) (high := if T1.hi < T2.hi then T2.hi else T1.hi) rfl C.z1.ok C.z2.ok (by split <;> omega) (by split <;> omega)
  refine ⟨_, rfl, _, rfl, a, b, lo, hi, lo2, hi2, m, m2, _, _, _, _, _, _, rfl, duo_two C f1 f2 x.la x.lb, put_end C (mm opE) f1 f2 fun r0 H7 s7 e0 => ?_⟩
  have x7 := x.same s7
  refine ⟨_, rfl, _, rfl, a, b, lo, hi, lo2, hi2, m, m2, _, _, _, _, _, _, rfl, duo_two C f1 f2 x7.la x7.lb, put_end C (mm opB) f1 f2 fun r1 H8 s8 e1 => ?_⟩
  have x8 := x7.same s8
  refine ⟨_, rfl, _, rfl, a, b, lo, hi, lo2, hi2, m, m2, _, _, _, _, _, _, rfl, duo_two C f1 f2 x8.la x8.lb, put_end C (mm opL) f1 f2 fun r2 H9 s9 e2 => ⟨(by show 3 ≤ sizeLine; decide), fun y hy => ?_⟩⟩
  have s10 := same_new (o := .tup [V.ref r0, V.ref r1, V.ref r2]) (Same.refl H9) hy
  exact nxt _ a0 p c t1 c1 u1 d1 t2 c2 u2 d2 a b q1 q2 z y r0 r1 r2 T1 T2 lo hi lo2 hi2 m m2 _ _ _ _ _ _ _ _ _ _ _ _ B ((x8.same s9).same s10) (s10 _ _ (s9 _ _ (s8 _ _ (s7 _ _ ez)))) upd_same (((e0.same s8).same s9).same s10) ((e1.same s9).same s10) (e2.same s10)
theorem body_X0 (S : LawSrc P w K mg base) {cdv : Value} {A : Around} {outer : List Env} {s : Shared} {H : Hp} {E : XK} {Q : VK} (hr : Room 6 (A.deeper (envOfC "law" (defScope s_law) s.heap.objs.size (He.ga K "law") cdv))) :
    ∃ tl, PSs (cxL P w K mg base cdv A outer s H E) ((forBody s_law 2).drop 0) tl ∧ ∀ (H1 : Hp) (a0 p c : Addr) (y2 y3 y4 y5 y6 y7 y8 y9 y10 y11 y12 y13 y14 y15 y16 y17 y18 y19 : Option V) (B : L2.St → Hp → Prop), HandC H1 p c →
      tl { nx := PvL a0 p c, rt := Q, bk := B, ct := PvL a0 p c } [some (V.ref a0), some (V.ref p), y2, y3, y4, y5, y6, y7, y8, y9, y10, y11, y12, y13, y14, y15, y16, y17, y18, y19] H1 := by
  have h3 : Room 3 (A.deeper (envOfC "law" (defScope s_law) s.heap.objs.size (He.ga K "law") cdv)) := hr.mono (by decide)
  have h2 : Room 2 (A.deeper (envOfC "law" (defScope s_law) s.heap.objs.size (He.ga K "law") cdv)) := hr.mono (by decide)
  obtain ⟨tn, dtn, nxt⟩ := body_X1 S (outer := outer) (H := H) (E := E) (Q := Q) hr
  refine ⟨_, (pss_cons (ps_set (i := 8) sc_law.nd rfl (by walk_at "lv") (pe_k S.td h3 (by rfl) pass0 (pa_cons (pv 1) (pa_cons pe_bl pa_nil))))
        (pss_cons (ps_set (i := 9) sc_law.nd rfl (by walk_at "lv") (pe_k S.td h3 (by rfl) pass0 (pa_cons (pv 1) (pa_cons pe_bl pa_nil))))
        (pss_cons (ps_if (pt_cmpR op_eq (pe_k S.draw h2 (by rfl) pass0 (pa_cons (pv 1) (pa_cons pe_int pa_nil))) pe_int (nomark _)) (pss_one (ps_set (i := 9) sc_law.nd rfl (by walk_at "lv") (pe_k S.mx h2 (by rfl) pass0 (pa_cons (pv 8) (pa_cons (pv 9) (pa_cons pe_int pa_nil)))))) pss_nil) dtn))), ?_⟩
  intro H1 a0 p c y2 y3 y4 y5 y6 y7 y8 y9 y10 y11 y12 y13 y14 y15 y16 y17 y18 y19 B hh
  refine ⟨_, rfl, p, c, false, rfl, hh, fun t1 c1 u1 d1 T1 H2 hh2 b2 A1 dr1 zz1 => ?_⟩
  refine ⟨_, rfl, p, c, false, rfl, hh2, fun t2 c2 u2 d2 T2 H3 hh3 b3 A2 dr2 zz2 => ?_⟩
  have A1 := A1.but hh2 b3
  have C := couple_drawn dr1 dr2 (zz1 rfl) (zz2 rfl)
  refine ⟨_, rfl, p, c, 3, rfl, hh3, ⟨by decide, by decide⟩, fun r H4 r0 r1 hh4 b4 => ⟨rfl, _, rfl, ite2 (fun _ => ?_) (fun _ => ?_)⟩⟩
  · have A1 := A1.but hh3 b4
    have A2 := A2.but hh3 b4
    have z1 := C.z1
    have z2 := C.z2
    refine ⟨_, rfl, _, rfl, t1, c1, u1, d1, t2, c2, u2, d2, T1, T2, 0, rfl, ⟨by decide, by decide⟩, A1, A2, z1.ok, z2.ok, ⟨by have := z1.m; omega, by have := z2.m; omega⟩, ⟨by have := z1.c; omega, by have := z2.c; omega⟩, by have := z1.lo; have := z2.lo; omega, fun t c' u d T H5 s5 ta mt => ?_⟩
    exact nxt H5 a0 p c t1 c1 u1 d1 t c' u d T1 T _ _ _ _ _ _ _ _ _ _ _ _ _ _ _ _ B (hh4.same s5) (A1.same s5) ta (couple_mixed C mt)
  · exact nxt H4 a0 p c t1 c1 u1 d1 t2 c2 u2 d2 T1 T2 _ _ _ _ _ _ _ _ _ _ _ _ _ _ _ _ B hh4 (A1.but hh3 b4) (A2.but hh3 b4) C
end
end My
set_option Elab.async false
set_option linter.all false
set_option maxRecDepth 100000
set_option maxHeartbeats 8000000
namespace My
open PySem PySem.Spec PyProof.Rows L2
local macro_rules | `(tactic| walk_at "lv") => `(tactic| first | exact Or.inl rfl | exact Or.inr rfl)
def ifBody (st : Stmt) (i : Nat) : List Stmt := match (defBody st)[i]? with
  | some (.If _ b _ _) => b
  | _ => []
/-! ### the lots of great moduli -/
theorem hot_least {s : Nat} {x y : Int} {lo hi : Int} {d : Nat} (hs : 0 < s) (hx : 0 ≤ x ∧ x < s) (f : IsForm (tlOf 0 0 [] s [x] [y]).has (tlOf 0 0 [] s [x] [y]).U (tlOf 0 0 [] s [x] [y]).D lo hi d) : d = s := by
  have ok : (tlOf 0 0 [] s [x] [y]).Ok := tlOf_ok hs
  have d0 := f.least.pos
  have d1 := f.least.le s hs (by have := ok.pu; unfold Tl.m at this; rw [tlOf_m] at this; exact this) (by have := ok.pd; unfold Tl.m at this; rw [tlOf_m] at this; exact this)
  have u0 : (tlOf 0 0 [] s [x] [y]).U x = true := by
    rw [tlOf_U hs, Int.emod_eq_of_lt hx.1 hx.2]
    simp
  have u1 := f.least.pu x
  rw [u0, tlOf_U hs] at u1
  have e : (x + (d : Int)) % (s : Int) = x := by simpa using of_decide_eq_true u1
  rcases Nat.lt_or_ge d s with q | q
  · rcases Int.lt_or_le (x + (d : Int)) s with w | w
    · rw [Int.emod_eq_of_lt (by omega) w] at e
      omega
    · have e2 : (x + (d : Int) - s) % (s : Int) = x := by rw [Int.sub_emod_right]; exact e
      rw [Int.emod_eq_of_lt (by omega) (by omega)] at e2
      omega
  · omega
/-- a lot of such a telling stands at r -/
def HotAt (K : PySem.W.Frag) (H : Hp) (r : Addr) (s : Nat) : Prop := ∃ (T : Tl) (lo hi : Int), T.Ok ∧ IsForm T.has T.U T.D lo hi s ∧ (-300 ≤ lo ∧ hi ≤ 300) ∧ LotAt (He.ga K "Lot") H r lo hi (insOf T lo hi) s (resOf T.U s) (resOf T.D s)
theorem HotAt.same {K : PySem.W.Frag} {H H' : Hp} {r : Addr} {s : Nat} (t : Same H H') (h : HotAt K H r s) : HotAt K H' r s := by
  obtain ⟨T, lo, hi, a, b, c, d⟩ := h
  exact ⟨T, lo, hi, a, b, c, d.same t⟩
theorem HotAt.but {K : PySem.W.Frag} {H H' : Hp} {r p c : Addr} {s : Nat} (hh : HandC H p c) (t : But p H H') (h : HotAt K H r s) : HotAt K H' r s := by
  obtain ⟨T, lo, hi, a, b, e, d⟩ := h
  exact ⟨T, lo, hi, a, b, e, d.but hh t⟩
theorem HotAt.two {K : PySem.W.Frag} {H : Hp} {r q : Addr} {s s2 : Nat} (a : HotAt K H r s) (b : HotAt K H q s2) (h1 : s ≤ 10080) (h2 : s2 ≤ 10080) : ∃ lo hi lo2 hi2 xs us ds xs2 us2 ds2, Two K H r q lo hi lo2 hi2 s s2 xs us ds xs2 us2 ds2 := by
  obtain ⟨T, lo, hi, o1, f1, b1, l1⟩ := a
  obtain ⟨T2, lo2, hi2, o2, f2, b2, l2⟩ := b
  exact ⟨lo, hi, lo2, hi2, _, _, _, _, _, _, l1, l2, lotD_of f1 (by omega) (by omega) h1, lotD_of f2 (by omega) (by omega) h2, by omega⟩
section
variable {P : Program} {w : World} {K : PySem.W.Frag} {mg : Str → Option Value} {base : Heap}
theorem hot_make {H : Hp} {Q : VK} {a b c : Addr} {s : Nat} {x y : Int} (hs : 0 < s ∧ s ≤ 200) (hx : 0 ≤ x ∧ x < s) (hy : 0 ≤ y ∧ y < s) (ha : H a = some (.lst [])) (hb : H b = some (.lst [.int x])) (hc : H c = some (.lst [.int y])) (k : ∀ r H', Same H H' → HotAt K H' r s → Q (.ref r) H') :
    spMake K [.int 0, .int (-1), .ref a, .int s, .ref b, .ref c] H Q E0 := by
  have ok : (tlOf 0 0 [] s [x] [y]).Ok := tlOf_ok hs.1
  have rng : ∀ lo hi d, IsForm (tlOf 0 0 [] s [x] [y]).has (tlOf 0 0 [] s [x] [y]).U (tlOf 0 0 [] s [x] [y]).D lo hi d → -300 ≤ lo ∧ hi ≤ 300 := fun lo hi d f => by
    rcases form_near ok f with h | h
    · omega
    · rw [tlOf_m, tlOf_hi] at h
      have : (tlOf 0 0 [] s [x] [y]).lo = 0 := rfl
      omega
  refine ⟨tlOf 0 0 [] s [x] [y], a, b, c, [], [x], [y], ?_, ⟨ok, by rw [tlOf_m]; omega, by rw [tlOf_c]; omega, by show -10 ^ 31 ≤ (0 : Int) ∧ (0 : Int) ≤ 10 ^ 31; omega⟩, ⟨by rw [tlOf_c]; omega, by rw [tlOf_m]; omega⟩, by show (-20000 : Int) ≤ 0; decide, by rw [tlOf_hi]; decide, ?_, ⟨List.nodup_nil, by simp, by simp⟩, ⟨by simp, by simp, by simp⟩, .inl ha, .inl hb, .inl hc, ?_, ?_⟩
  · rw [tlOf_hi, tlOf_m]
    rfl
  · refine tlOf_told (fun _ z => nomatch z) (fun r hr => ?_) (fun r hr => ?_)
    · rw [List.mem_singleton.mp hr]; exact hx
    · rw [List.mem_singleton.mp hr]; exact hy
  · intro r lo hi d H' f _ _ s' la
    have e := hot_least hs.1 hx f
    subst e
    exact k r H' s' ⟨_, lo, hi, ok, f, rng lo hi _ f, la⟩
  · intro lo hi d dd H' f out _ _
    have := rng lo hi d f
    omega
theorem law_A (S : LawSrc P w K mg base) {cdv : Value} {A : Around} {outer : List Env} {s : Shared} {H : Hp} {E : XK} {Q : VK} (hr : Room 6 (A.deeper (envOfC "law" (defScope s_law) s.heap.objs.size (He.ga K "law") cdv))) (hq : ∀ H', Q (.bl true) H') :
    ∃ tl, PSs (cxL P w K mg base cdv A outer s H E) (ifBody s_law 1) tl ∧ ∀ (H1 : Hp) (a0 p c : Addr) (D : Ends), HandC H1 p c → D.rt = Q → (∀ σ H2, PvL a0 p c σ H2 → D.nx σ H2) →
      tl D [some (V.ref a0), some (V.ref p), none, none, none, none, none, none, none, none, none, none, none, none, none, none, none, none, none, none] H1 := by
  have h4 : Room 4 (A.deeper (envOfC "law" (defScope s_law) s.heap.objs.size (He.ga K "law") cdv)) := hr.mono (by decide)
  have h2 : Room 2 (A.deeper (envOfC "law" (defScope s_law) s.heap.objs.size (He.ga K "law") cdv)) := hr.mono (by decide)
  refine ⟨_, (pss_cons (ps_set (i := 2) sc_law.nd rfl (by walk_at "lv") (pe_tup (pa_cons (pe_op op_add pe_int (pe_k S.draw h2 (by rfl) pass0 (pa_cons (pv 1) (pa_cons pe_int pa_nil)))) (pa_cons (pe_op op_add pe_int (pe_k S.draw h2 (by rfl) pass0 (pa_cons (pv 1) (pa_cons pe_int pa_nil)))) pa_nil))))
        (pss_cons (ps_setLc (i := 3) (own := [("_law_size", 15)]) (g := gName 15) (tt := tYes) rfl sc_law.nd rfl rfl (sw_true rfl rfl rfl (by decide +kernel)) (pi_tup (pv 2)) (blkOk_by (N := N_law) (sc := defScope s_law) (by decide +kernel)) (fun _ _ _ _ _ => (pg_name (i := 15) sc_law.nd rfl (by walk_at "lv"))) (fun _ _ _ _ _ => pts_nil) (fun _ _ _ _ _ => (pe_k S.make h4 (by rfl) (passE (P := P) (w := w)) (pa_cons pe_int (pa_cons (pe_un un_neg pe_int) (pa_cons (pe_lst pa_nil) (pa_cons (pv 15) (pa_cons (pe_lst (pa_cons (pe_k S.draw h2 (by rfl) pass0 (pa_cons (pv 1) (pa_cons (pv 15) pa_nil))) pa_nil)) (pa_cons (pe_lst (pa_cons (pe_k S.draw h2 (by rfl) pass0 (pa_cons (pv 1) (pa_cons (pv 15) pa_nil))) pa_nil)) pa_nil)))))))))
        (pss_cons (ps_set (i := 4) sc_law.nd rfl (by walk_at "lv") (pe_ix ix_list (pe_lc (own := [("_law_k", 16)]) (g := gName 16) rfl sc_law.nd (pi_range2 (by rfl) S.n.range (pa_cons pe_int (pa_cons (pe_op op_add (pe_ix ix_tup (pv 2) pe_int (fun _ _ => rfl)) pe_int) pa_nil))) (blkOk_by (N := N_law) (sc := defScope s_law) (by decide +kernel)) (fun _ _ _ _ _ => (pg_name (i := 16) sc_law.nd rfl (by walk_at "lv"))) (fun _ _ _ _ _ => (pts_one (pt_cmpR op_eq (pe_op op_mod (pe_callTy call_int1 (by rfl) S.n.int boot_int (pa_cons (pe_op op_mul (pv 16) (pe_ix (r := rIxT K) ix_tup (pv 2) pe_int (fun _ _ => rfl))) pa_nil)) (pe_ix (r := rIxT K) ix_tup (pv 2) pe_int (fun _ _ => rfl))) pe_int (nomark _)))) (fun _ _ _ _ _ => (pv 16))) pe_int (fun _ _ => rfl)))
        (pss_cons (ps_if (pt_cmpR op_ne (pe_op op_mul (pe_fld (pe_ix ix_list (pv 3) pe_int (fun _ _ => rfl)) rfl) (pe_fld (pe_ix ix_list (pv 3) pe_int (fun _ _ => rfl)) rfl)) (pe_op op_mul (pe_ix ix_tup (pv 2) pe_int (fun _ _ => rfl)) (pe_ix ix_tup (pv 2) pe_int (fun _ _ => rfl))) (nomark _)) (pss_one (ps_ret pe_bl)) pss_nil)
        (pss_cons (ps_set (i := 5) sc_law.nd rfl (by walk_at "lv") (pe_cmpR op_gt (pe_op op_mul (pv 4) (pe_ix ix_tup (pv 2) pe_int (fun _ _ => rfl))) pe_int (nomark _)))
        (pss_cons (ps_for PassesOwn.never rfl (pi_range1 (by rfl) S.n.range (pa_cons pe_int pa_nil)) (pg_name (i := 6) sc_law.nd rfl (by walk_at "lv")) (pss_one (ps_if (pt_cmpR op_ne (pe_k S.long hr (by rfl) pass0 (pa_cons (pe_ix ix_list (pv 3) pe_int (fun _ _ => rfl)) (pa_cons (pe_ix ix_list (pv 3) pe_int (fun _ _ => rfl)) (pa_cons (pv 6) pa_nil)))) (pv 5) (nomark _)) (pss_one (ps_ret pe_bl)) pss_nil)))
        (pss_one (ps_if (pt_val (pv 5)) (pss_one (ps_ret pe_bl)) pss_nil)))))))), ?_⟩
  intro H1 a0 p c D hh hrt hnx
  refine ⟨_, rfl, p, c, 7, rfl, hh, ⟨by decide, by decide⟩, fun r H2 r0 r1 hh2 b2 => ⟨_, _, rfl, rfl, _, rfl, p, c, 13, rfl, hh2, ⟨by decide, by decide⟩, fun r' H3 r0' r1' hh3 b3 => ⟨_, _, rfl, rfl, (by show 2 ≤ sizeLine; decide), fun z hz => ?_⟩⟩⟩
  obtain ⟨s1, hs1⟩ := Int.eq_ofNat_of_zero_le (show 0 ≤ 97 + r by omega)
  obtain ⟨s2, hs2⟩ := Int.eq_ofNat_of_zero_le (show 0 ≤ 101 + r' by omega)
  have g1 : 97 ≤ s1 ∧ s1 ≤ 103 := by omega
  have g2 : 101 ≤ s2 ∧ s2 ≤ 113 := by omega
  dsimp only
  rw [hs1, hs2]
  have t4 := same_new (o := .tup [V.int (s1 : Int), V.int (s2 : Int)]) (Same.refl H3) hz
  have hh4 := hh3.same t4
  have ez : (upd H3 z (.tup [V.int (s1 : Int), V.int (s2 : Int)])) z = some (.tup [V.int (s1 : Int), V.int (s2 : Int)]) := upd_same
  generalize upd H3 z (.tup [V.int (s1 : Int), V.int (s2 : Int)]) = H4 at hh4 ez ⊢
  have nzp : ∀ {H : Hp}, HandC H p c → H z = some (.tup [V.int (s1 : Int), V.int (s2 : Int)]) → z ≠ p := fun h e => h.np e fun _ _ _ _ q => by cases q
  refine ⟨_, rfl, z, rfl, ⟨_, SqT.of ez⟩, fun D3 hD3 => ?_⟩
  have nD := hh4.ne hD3
  refine lc_it (walk_tup (K := K) (a := z) (xs := [V.int (s1 : Int), V.int (s2 : Int)])) (fun i H5 => HandC H5 p c ∧ But p H4 H5 ∧ ∃ rs : List Addr, rs.length = i ∧ H5 D3 = some (.lst (rs.map V.ref)) ∧ ∀ (j : Nat) (q : Addr), rs[j]? = some q → HotAt K H5 q (if j = 0 then s1 else s2)) ⟨hh4.upd nD.1 nD.2, fun b o _ e => by rw [upd_ne (ne_of_none e hD3)]; exact e, [], rfl, upd_same, fun j q e => by simp at e⟩ (fun i H5 _ h => SqT.of (h.2.1 _ _ (nzp hh4 ez) ez)) ?_ ?_
  · rintro i v HX H5 hi' ⟨hh5, b5, rs, rl, eD, er⟩ ⟨rfl, e4⟩
    obtain ⟨s0, rfl, hs0, e0⟩ : ∃ s0 : Nat, v = V.int (s0 : Int) ∧ (0 < s0 ∧ s0 ≤ 200) ∧ s0 = if i = 0 then s1 else s2 := by
      match i, e4 with
      | 0, e4 => cases e4; exact ⟨s1, rfl, by omega, rfl⟩
      | 1, e4 => cases e4; exact ⟨s2, rfl, by omega, rfl⟩
      | n + 2, e4 => cases e4
    refine ⟨rfl, _, rfl, Nat.zero_le _, fun la hla => ⟨_, rfl, ?_⟩⟩
    have t6 := same_new (o := .lst []) (Same.refl H5) hla
    have hh6 := hh5.same t6
    have e6 : (upd H5 la (.lst [])) la = some (.lst []) := upd_same
    have nla := hh5.ne hla
    have nDa : D3 ≠ la := ne_of_none eD hla
    generalize upd H5 la (.lst []) = H6 at t6 hh6 e6 ⊢
    refine ⟨_, rfl, _, rfl, p, c, (s0 : Int), rfl, hh6, ⟨by omega, log_small (by omega)⟩, fun x H7 x0 x1 hh7 b7 => ⟨(by show 1 ≤ sizeLine; decide), fun lb hlb => ?_⟩⟩
    have e7 := b7 _ _ nla.1.symm e6
    have t8 := same_new (o := .lst [V.int x]) (Same.refl H7) hlb
    have hh8 := hh7.same t8
    have e8 : (upd H7 lb (.lst [V.int x])) lb = some (.lst [V.int x]) := upd_same
    have e8a := t8 _ _ e7
    have nlb := hh7.ne hlb
    generalize upd H7 lb (.lst [V.int x]) = H8 at t8 hh8 e8 e8a ⊢
    refine ⟨_, rfl, _, rfl, p, c, (s0 : Int), rfl, hh8, ⟨by omega, log_small (by omega)⟩, fun y H9 y0 y1 hh9 b9 => ⟨(by show 1 ≤ sizeLine; decide), fun lc hlc => ?_⟩⟩
    have e9a := b9 _ _ nla.1.symm e8a
    have e9b := b9 _ _ nlb.1.symm e8
    have t10 := same_new (o := .lst [V.int y]) (Same.refl H9) hlc
    have b510 : But p H5 (upd H9 lc (.lst [V.int y])) := (But.of t6).trans (b7.trans ((But.of t8).trans (b9.trans (But.of t10))))
    refine hot_make hs0 ⟨x0, x1⟩ ⟨y0, y1⟩ (t10 _ _ e9a) (t10 _ _ e9b) upd_same fun q H11 t11 hot => ?_
    have b511 := b510.trans (But.of t11)
    have eD11 := b511 _ _ nD.1.symm eD
    have hh11 := (hh9.same t10).same t11
    refine ⟨_, eD11, smallB (by rw [List.length_map, rl]; have : i < 2 := hi'; omega), hh11.upd nD.1 nD.2, ?_, rs ++ [q], by rw [List.length_append, rl]; rfl, ?_, ?_⟩
    · intro b o hb e
      rw [upd_ne (ne_of_none e hD3)]
      exact b511 _ _ hb (b5 _ _ hb e)
    · rw [List.map_append]
      exact upd_same
    · intro j q' e
      have up : ∀ {r : Addr} {s : Nat}, HotAt K H11 r s → HotAt K (upd H11 D3 (.lst (rs.map V.ref ++ [V.ref q]))) r s := fun h => by
        obtain ⟨T, lo, hi, g1, g2, g3, dx, w1, w2, w3, k1, k2, k3, k4⟩ := h
        have nn : ∀ {u : Addr} {o : HO}, H11 u = some o → (∀ xs, o ≠ .lst xs) → u ≠ D3 := fun e n => ne_of e eD11 (n _)
        exact ⟨T, lo, hi, g1, g2, g3, dx, w1, w2, w3, by rw [upd_ne (nn k1 fun _ z => nomatch z)]; exact k1, by rw [upd_ne (nn k2 fun _ z => nomatch z)]; exact k2, by rw [upd_ne (nn k3 fun _ z => nomatch z)]; exact k3, by rw [upd_ne (nn k4 fun _ z => nomatch z)]; exact k4⟩
      rcases Nat.lt_trichotomy j rs.length with q1 | q1 | q1
      · rw [List.getElem?_append_left q1] at e
        exact up ((er j q' e).but hh5 b511)
      · subst q1
        have : q = q' := by simpa using e
        subst this
        rw [rl, ← e0]
        exact up hot
      · rw [List.getElem?_eq_none (by rw [List.length_append, List.length_singleton]; omega)] at e
        cases e
  rintro H5 ⟨hh5, b5, rs, rl, eD, er⟩
  obtain ⟨q1, q2, rfl⟩ : ∃ q1 q2, rs = [q1, q2] := by
    match rs, rl with
    | [q1, q2], _ => exact ⟨q1, q2, rfl⟩
  have hot1 := er 0 q1 rfl
  have hot2 := er 1 q2 rfl
  rw [if_pos rfl] at hot1
  rw [if_neg (by decide)] at hot2
  have ez5 := b5 _ _ (nzp hh4 ez) ez
  have m2' : (0 : Int) < (s2 : Int) := by omega
  refine ⟨_, rfl, z, _, _, _, rfl, rfl, SqT.of ez5, rfl, _, _, rfl, rfl, _, _, rfl, ⟨by omega, by omega, by omega, by omega⟩, fun D4 hD4 => ?_⟩
  rw [show ((s2 : Int) + 1 - 1).toNat = s2 by omega]
  refine lc_it walk_range (fun i H6 => H6 D4 = some (.lst ((fil (fun k => decide ((k * (s1 : Int)) % (s2 : Int) = 0)) 1 i).map V.int)) ∧ Same H5 H6) ⟨upd_same, same_new (Same.refl H5) hD4⟩ (fun i H6 _ h => trivial) ?_ ?_
  · rintro i v H6 H7 hi ⟨eD4, t6⟩ ⟨rfl, rfl⟩
    refine ⟨rfl, _, rfl, _, rfl, z, _, _, _, rfl, rfl, SqT.of (t6 _ _ ez5), rfl, _, _, rfl, rfl, .inl ⟨by omega, by omega⟩, .inl ⟨_, rfl, _, rfl, z, _, _, _, rfl, rfl, SqT.of (t6 _ _ ez5), rfl, _, _, rfl, rfl, m2', rfl, _, rfl, ?_⟩⟩
    rw [vdec]
    cases hb : decide (((1 + (i : Int)) * (s1 : Int)) % (s2 : Int) = 0) with
    | false =>
      refine iteF ⟨?_, t6⟩
      rw [fil_neg (by rw [hb]; exact Bool.false_ne_true)]
      exact eD4
    | true =>
      refine iteT ⟨_, rfl, _, eD4, smallB (by rw [List.length_map]; exact Nat.le_trans (fil_len _ _ _) (by omega)), ?_, fun b o e => ?_⟩
      · rw [fil_pos hb, List.map_append]
        exact upd_same
      · rw [upd_ne (ne_of_none e hD4)]
        exact t6 b o e
  rintro H6 ⟨eD4, t6⟩
  obtain ⟨v, ev, evl, v1, v2⟩ := size_lcm (m1 := s1) (m2 := s2) (by omega) (by omega)
  have at0 : atI ((fil (fun k => decide ((k * (s1 : Int)) % (s2 : Int) = 0)) 1 s2).map V.int) ((0 : Nat) : Int) = some (.int v) := by
    refine atI_nat ?_
    rw [List.getElem?_map, ev]
    rfl
  refine ⟨D4, _, _, _, rfl, rfl, SqL.of eD4, at0, ?_⟩
  have ez6 := t6 _ _ ez5
  have eD6 := t6 _ _ eD
  have hot1 := hot1.same t6
  have hot2 := hot2.same t6
  obtain ⟨T, lo, hi, _, _, _, dx, w1, w2, w3, k1, _⟩ := id hot1
  obtain ⟨T2, lo2, hi2, _, _, _, dx2, x1, x2, x3, l1, _⟩ := id hot2
  refine ⟨_, rfl, D3, _, _, _, rfl, rfl, SqL.of eD6, rfl, q1, _, dx, _, _, rfl, k1, S.lt.cl, S.lt.n4, lf_modulus, _, rfl, D3, _, _, _, rfl, rfl, SqL.of eD6, rfl, q2, _, dx2, _, _, rfl, l1, S.lt.cl, S.lt.n4, lf_modulus, _, _, rfl, rfl, .inl ⟨by omega, by omega⟩, ?_⟩
  refine ⟨_, rfl, z, _, _, _, rfl, rfl, SqT.of ez6, rfl, _, rfl, z, _, _, _, rfl, rfl, SqT.of ez6, rfl, _, _, rfl, rfl, .inl ⟨by omega, by omega⟩, rfl, _, rfl, ?_⟩
  rw [show (!decide (V.int ((s1 : Int) * (s2 : Int)) = V.int ((s1 : Int) * (s2 : Int)))) = false by simp]
  refine iteF ⟨_, rfl, _, rfl, z, _, _, _, rfl, rfl, SqT.of ez6, rfl, _, _, rfl, rfl, .inl ⟨by omega, by omega⟩, _, _, rfl, rfl, ?_⟩
  dsimp only
  rw [evl]
  have ed : decide ((Nat.lcm s1 s2 : Int) > 10080) = decide (10080 < Nat.lcm s1 s2) := dec_cong (by omega)
  rw [ed]
  obtain ⟨e1, e2, e3, e4, e5, e6, e7, e8, e9, e10, W⟩ := hot1.two hot2 (by omega) (by omega)
  generalize hdue : decide (10080 < Nat.lcm s1 s2) = due
  refine ⟨4, rfl, by decide, by decide, for_range (n := 4) (fun i σ H7 => ∃ y6 : Option V, σ = [some (V.ref a0), some (V.ref p), some (V.ref z), some (V.ref D3), some (V.int v), some (V.bl due), y6, none, none, none, none, none, none, none, none, none, none, none, none, none] ∧ Same H6 H7) ⟨_, rfl, Same.refl H6⟩ ?_ ?_⟩
  · rintro way σ H7 hw ⟨y6, rfl, t7⟩
    rw [Int.zero_add]
    refine ⟨_, rfl, D3, _, _, _, rfl, rfl, SqL.of (t7 _ _ eD6), rfl, _, rfl, D3, _, _, _, rfl, rfl, SqL.of (t7 _ _ eD6), rfl, _, rfl, q1, q2, (way : Int), e1, e2, e3, e4, s1, s2, e5, e6, e7, e8, e9, e10, rfl, ⟨by omega, by omega⟩, W.same t7, fun H8 t8 => ?_⟩
    rw [hdue]
    refine ⟨_, rfl, rfl, _, rfl, ?_⟩
    rw [show (!decide (V.bl due = V.bl due)) = false by simp]
    exact iteF ⟨_, rfl, t7.trans t8⟩
  · rintro σ H7 ⟨y6, rfl, t7⟩
    refine ⟨_, rfl, _, rfl, ?_⟩
    cases due with
    | true =>
      refine iteT ?_
      show D.rt (.bl true) H7
      rw [hrt]
      exact hq H7
    | false => exact iteF (hnx _ _ ⟨_, _, _, _, _, _, _, _, _, _, _, _, _, _, _, _, _, _, rfl, (hh5.same t6).same t7⟩)
theorem kp_law {fd : FuncData} (F : FunD K "law" "law" (defArgs s_law) (defBody s_law) (defScope s_law) [] [] (He.ga K "law") fd) (S : LawSrc P w K mg base) : FnOk P w K mg base CX0 7 (He.ga K "law") fd ["_law_script"] (spLaw K) := by
  refine F.ok sc_law (fun vs H Q E h => ?_) (fun cdv A outer s H vs Q E hr h => ?_)
  · obtain ⟨a, ns, rfl, _⟩ := h
    rfl
  · obtain ⟨a, ns, rfl, hS, hlen, k⟩ := h
    have h1 : Room 1 (A.deeper (envOfC "law" (defScope s_law) s.heap.objs.size (He.ga K "law") cdv)) := hr.mono (by decide)
    have h2 : Room 2 (A.deeper (envOfC "law" (defScope s_law) s.heap.objs.size (He.ga K "law") cdv)) := hr.mono (by decide)
    obtain ⟨tb, db, body⟩ := body_X0 S (outer := outer) (H := H) (E := E) (Q := Q) hr
    obtain ⟨ta, da, ahead⟩ := law_A S (outer := outer) (H := H) (E := E) (Q := Q) hr k
    have main : ∃ tt, PSs (cxL P w K mg base cdv A outer s H E) (defBody s_law) tt ∧ tt { nx := fun _ H' => Q .non H', rt := Q } (start N_law [V.ref a]) H := by
      refine ⟨_, pss_cons (ps_set (i := 1) sc_law.nd rfl (by walk_at "lv") (pe_k S.hand h1 (by rfl) pass0 (pa_cons (pv 0) pa_nil))) (pss_cons (ps_if (pt_cmpR op_eq (pe_k S.draw h2 (by rfl) pass0 (pa_cons (pv 1) (pa_cons pe_int pa_nil))) pe_int (nomark _)) da pss_nil) (pss_cons (ps_for PassesOwn.never rfl (pi_range1 (by rfl) S.n.range (pa_cons pe_int pa_nil)) (pg_name (i := 7) sc_law.nd rfl (by walk_at "lv")) db) (pss_one (ps_ret pe_bl)))), ?_⟩
      refine ⟨_, rfl, a, ns, rfl, hS, hlen, fun p c H1 _ _ hp s1 => ?_⟩
      refine ⟨_, rfl, p, c, 6, rfl, hp, ⟨by decide, by decide⟩, fun r H2 r0 r1 hp2 b2 => ⟨rfl, _, rfl, ?_⟩⟩
      have rest : ∀ σ H3, PvL a p c σ H3 → tSeq (tFor (iRng1 (tCons (tC (.int 3)) tNil)) (gName 7) tb) (tRet (tC (.bl true))) { nx := fun _ H' => Q .non H', rt := Q } σ H3 := by
        rintro σ H3 ⟨y2, y3, y4, y5, y6, y7, y8, y9, y10, y11, y12, y13, y14, y15, y16, y17, y18, y19, rfl, hp3⟩
        refine ⟨3, rfl, by decide, by decide, for_range (n := 3) (fun i σ H2 => PvL a p c σ H2) ⟨_, _, _, _, _, _, _, _, _, _, _, _, _, _, _, _, _, _, rfl, hp3⟩ ?_ ?_⟩
        · rintro turn σ H4 hturn ⟨y2, y3, y4, y5, y6, y7, y8, y9, y10, y11, y12, y13, y14, y15, y16, y17, y18, y19, rfl, hp4⟩
          exact body H4 a p c y2 y3 y4 y5 y6 (some (.int (0 + (turn : Nat)))) y8 y9 y10 y11 y12 y13 y14 y15 y16 y17 y18 y19 _ hp4
        · rintro σ H4 _
          exact k H4
      refine ite2 (fun _ => ?_) (fun _ => ?_)
      · exact ahead H2 a p c _ hp2 rfl rest
      · exact rest _ _ ⟨none, none, none, none, none, none, none, none, none, none, none, none, none, none, none, none, none, none, rfl, hp2⟩
    obtain ⟨tt, d1, d2⟩ := main
    exact ⟨tt, d1.nox, d2⟩
end
end My
set_option Elab.async false
set_option linter.all false
set_option maxRecDepth 100000
set_option maxHeartbeats 8000000
namespace My
open PySem PySem.Spec PyProof.Rows L2
local macro_rules | `(tactic| walk_at "lv") => `(tactic| first | exact Or.inl rfl | exact Or.inr rfl)
/-! ### what the law stands on, and what the top leaves -/
def looseN : List Str := (["lcm", "_wall", "is_whole", "is_whole_from", "is_sequence", "BookError", "BadLot", "TooLong", "FARTHEST", "MOST_MODULUS", "IN_EITHER", "IN_BOTH", "IN_FIRST_ALONE", "Lot", "make_lot", "_check_core", "_are_unlike_from", "_lot_of", "_flags"] : List Str) ++ (["_places_of", "_least_modulus", "_repeats", "_greatest_wrong", "_least_wrong", "either_lot", "both_lot", "less_lot", "_put_together", "_common_modulus", "_rests_together", "lot_flags", "within", "least_by_size", "lot_members"] : List Str) ++ (["_law_mix", "_law_hand", "_law_draw", "_law_whole", "_law_row_of", "_law_telling_drawn", "_law_has", "_law_parts", "_law_form", "_law_seen", "_law_is_form", "_law_lot_of", "_law_mixed", "_law_long"] : List Str)
def dG (x : Str) (st : Stmt) : He5.DefA := ⟨fun K => He.ga K x, x, x, defArgs st, defBody st, defScope st, [], []⟩
def dM (c m q : Str) (st : Stmt) : He5.DefA := ⟨fun K => He.ma K (He.ga K c) m, m, q, defArgs st, defBody st, defScope st, [], []⟩
def gfns : List He5.DefA := ([dG "is_whole" s_whole, dG "is_whole_from" s_wholeF, dG "is_sequence" s_seq, dG "make_lot" s_make, dG "_check_core" s_core, dG "_are_unlike_from" s_unl, dG "_lot_of" s_lotof, dG "_flags" s_flags, dG "_places_of" s_places, dG "_least_modulus" s_lm] : List He5.DefA) ++
  ([dG "_repeats" s_rep, dG "_greatest_wrong" s_gw, dG "_least_wrong" s_lw, dG "either_lot" s_either, dG "both_lot" s_both, dG "less_lot" s_less, dG "_put_together" s_put, dG "_common_modulus" s_cm, dG "_rests_together" s_rt, dG "lot_flags" s_lf] : List He5.DefA) ++
  ([dG "within" s_wi, dG "least_by_size" s_bs, dG "lot_members" s_mem, dG "_law_mix" s_mix, dG "_law_hand" s_hand, dG "_law_draw" s_draw, dG "_law_whole" s_lwh, dG "_law_row_of" s_row, dG "_law_telling_drawn" s_td, dG "_law_has" s_has] : List He5.DefA) ++
  ([dG "_law_parts" s_parts, dG "_law_form" s_form, dG "_law_seen" s_seen, dG "_law_is_form" s_isf, dG "_law_lot_of" s_lo, dG "_law_mixed" s_mx, dG "_law_long" s_long, dG "law" s_law] : List He5.DefA)
def mfns : List He5.DefA := [dM "Lot" "__init__" "Lot.__init__" s_lotI, dM "TooLong" "__init__" "TooLong.__init__" (inClass (top 9) 0)]
def fns : List He5.DefA := gfns ++ mfns
def gnames : List Str := gfns.map (·.name)
abbrev AlM : Type := Bool × He.AlD
def obsM (b : PySem.W.Frag → Bool) (K : PySem.W.Frag) : AlM := (b K, He5.obsA [] fns K)
def hookM (n : Nat) (b : PySem.W.Frag → Bool) : PySem.W.Hook where
  α := AlM
  obs := fun s => obsM b (He.frG s.heap.get? (He.asD s.heap.get? n))
  val := fun _ => (true, He5.valA fns)
  says := fun _ h => ∃ K : PySem.W.Frag, K.In h ∧ obsM b K = (true, He5.valA fns)
  of := fun _ _ e => ⟨_, He.frG_in, e⟩
  keeps := fun _ _ _ ⟨F, inF, says⟩ k => ⟨F, PySem.W.Frag.In.keeps inF k, says⟩
theorem obsM_eq {n : Nat} {b : PySem.W.Frag → Bool} {g : Addr → Option Obj} {s : Shared} (h : ∀ a, g a = s.heap.get? a) : obsM b (He.frG g (He.asD g n)) = (hookM n b).obs s := by
  have same : g = s.heap.get? := funext h
  rw [same] <;> rfl
def blts : List Str := ["int", "bool", "str", "list", "tuple", "isinstance", "enumerate", "abs", "len", "range", "min", "all", "any", "ValueError", "zip", "max"]
def lotB (K : PySem.W.Frag) : Bool := (He.Fa.cls "Lot").ok K && ((["low", "high", "inside", "modulus", "ups", "downs"] : List Str).all (fun f => (He.Fa.noat "Lot" f).ok K) && ((He.Fa.mkr "Lot").ok K &&
  (decide (PySem.W.findIn K (.ref (He.ga K "Lot")) "__class__" = some (some (.builtin "object.__class__"))) && (decide (PySem.W.mroIn K (He.ga K "Lot") (.type "object") = some true) && (decide (PySem.W.kitOne K (.ref (He.ga K "Lot")) (.type "str") = some false) && decide (PySem.W.kitOne K (.ref (He.ga K "Lot")) (.ref (He.ga K "Lot")) = some true))))))
def tlB (K : PySem.W.Frag) : Bool := exB K "BookError" ("TooLong", ["most"]) && (xfB K (He.ga K "TooLong") && decide (PySem.W.exmOne K (.ref (He.ga K "TooLong")) (.ref (He.ga K "TooLong")) = some true))
/-- a couple of flags stands at v -/
def cplB (K : PySem.W.Frag) (v : Value) (p : Bool × Bool) : Bool := match v with
  | .ref ad => (match K.lookup ad with
    | some ob => (match ob.data with
      | .seq ents _ => decide (ob.cls = .type "tuple") && decide (ents.toList = [.bool p.1, .bool p.2])
      | _ => false)
    | none => false)
  | _ => false
def cplsB (K : PySem.W.Frag) : List Value → List (Bool × Bool) → Bool
  | [], [] => true
  | v :: vs, p :: ps => cplB K v p && cplsB K vs ps
  | _, _ => false
def tkB (K : PySem.W.Frag) (nm : Str) (l : List (Bool × Bool)) : Bool := match PySem.W.nsIn K mainGlobals nm with
  | some (some (.ref t)) => (match K.lookup t with
    | some ob => (match ob.data with
      | .seq ents _ => decide (ob.cls = .type "tuple") && cplsB K ents.toList l
      | _ => false)
    | none => false)
  | _ => false
def dpOf (p : Bool × Bool) : PyData := .tuple [.bool p.1, .bool p.2]
theorem cplB_ok {K : PySem.W.Frag} {v : Value} {p : Bool × Bool} (h : cplB K v p = true) : ∃ a : Addr, v = .ref a ∧ ∀ H : Hp, Dp K H (.ref a) (dpOf p) := by
  cases v with
  | ref a =>
    have h : (match K.lookup a with
      | some ob => (match ob.data with
        | .seq ents _ => decide (ob.cls = .type "tuple") && decide (ents.toList = [.bool p.1, .bool p.2])
        | _ => false)
      | none => false) = true := h
    cases q : K.lookup a with
    | none => rw [q] at h; cases h
    | some ob =>
      rw [q] at h
      cases q2 : ob.data with
      | seq ents n =>
        rw [show (match (some ob : Option Obj) with
          | some ob => (match ob.data with
            | .seq ents _ => decide (ob.cls = .type "tuple") && decide (ents.toList = [.bool p.1, .bool p.2])
            | _ => false)
          | none => false) = (decide (ob.cls = .type "tuple") && decide (ents.toList = [.bool p.1, .bool p.2])) by simp only [q2]] at h
        obtain ⟨h1, h2⟩ := and_ok h
        have h2 := of_decide_eq_true h2
        have hs : ents.size ≤ sizeLine := by
          rw [← Array.length_toList, h2]
          show 2 ≤ sizeLine
          decide
        exact ⟨a, rfl, fun H => .tup (xs := [.bl p.1, .bl p.2]) (.inr ⟨ob, ents, n, q, of_decide_eq_true h1, q2, hs, by rw [h2]; exact .cons rfl (.cons rfl .nil)⟩) (.cons (.bl _) (.cons (.bl _) .nil))⟩
      | _ =>
        simp only [q2] at h
        cases h
  | _ => cases h
theorem cplsB_ok {K : PySem.W.Frag} : ∀ {vs : List Value} {l : List (Bool × Bool)}, cplsB K vs l = true → vs.length = l.length ∧ ∃ xs : List V, Vals xs vs ∧ ∀ H : Hp, DpAll K H xs (l.map dpOf)
  | [], [], _ => ⟨rfl, [], .nil, fun _ => .nil⟩
  | [], _ :: _, h => nomatch h
  | _ :: _, [], h => nomatch h
  | v :: vs, p :: ps, h => by
    obtain ⟨h1, h2⟩ := and_ok (show (cplB K v p && cplsB K vs ps) = true from h)
    obtain ⟨a, rfl, d⟩ := cplB_ok h1
    obtain ⟨hl, xs, hv, ha⟩ := cplsB_ok h2
    exact ⟨by rw [List.length_cons, List.length_cons, hl], .ref a :: xs, .cons rfl hv, fun H => .cons (d H) (ha H)⟩
theorem tk_ok {K : PySem.W.Frag} {h : Heap} {mg : Str → Option Value} (X : K.In h) (G : h.Ns mainGlobals mg) {nm : Str} {l : List (Bool × Bool)} {op : Bool → Bool → Bool} (c : tkB K nm l = true) (hl : l.length ≤ 3) (hs : SeqAt.shaped (.tuple (l.map dpOf)) = true) (ha : ∀ a b : Bool, ((l.map dpOf).any fun z => PyData.eqv z (.tuple [.bool a, .bool b])) = op a b) : ∃ t, mg nm = some (.ref t) ∧ TakenAt K t op := by
  unfold tkB at c
  cases en : PySem.W.nsIn K mainGlobals nm with
  | none => rw [en] at c; cases c
  | some o1 =>
    rw [en] at c
    cases o1 with
    | none => cases c
    | some v =>
      cases v with
      | ref t =>
        have c : (match K.lookup t with
          | some ob => (match ob.data with
            | .seq ents _ => decide (ob.cls = .type "tuple") && cplsB K ents.toList l
            | _ => false)
          | none => false) = true := c
        cases q : K.lookup t with
        | none => rw [q] at c; cases c
        | some ob =>
          rw [q] at c
          cases q2 : ob.data with
          | seq ents n =>
            rw [show (match (some ob : Option Obj) with
              | some ob => (match ob.data with
                | .seq ents _ => decide (ob.cls = .type "tuple") && cplsB K ents.toList l
                | _ => false)
              | none => false) = (decide (ob.cls = .type "tuple") && cplsB K ents.toList l) by simp only [q2]] at c
            obtain ⟨h1, h2⟩ := and_ok c
            obtain ⟨h3, xs, hv, hd⟩ := cplsB_ok h2
            have h4 : ents.size ≤ sizeLine := by
              rw [← Array.length_toList, h3]
              exact Nat.le_trans hl (by decide)
            exact ⟨t, PySem.W.mg_of X G en, l.map dpOf, fun H => .tup (.inr ⟨ob, ents, n, q, of_decide_eq_true h1, q2, h4, hv⟩) (hd H), hs, ha⟩
          | _ =>
            simp only [q2] at c
            cases c
      | _ => cases c
def lE : List (Bool × Bool) := [(true, true), (true, false), (false, true)]
def lBo : List (Bool × Bool) := [(true, true)]
def lLe : List (Bool × Bool) := [(true, false)]
def conB (K : PySem.W.Frag) : Bool := (He.Fa.glo "Lot").ok K && ((He.Fa.int "FARTHEST" 20000).ok K && ((He.Fa.int "MOST_MODULUS" 10080).ok K && (He.eqO (PySem.W.nsIn K mainGlobals "lcm") (some (some (.builtin "math.lcm"))) && (tkB K "IN_EITHER" lE && (tkB K "IN_BOTH" lBo && tkB K "IN_FIRST_ALONE" lLe)))))
def clB (K : PySem.W.Frag) : Bool := decide (PySem.W.specialIn K (.builtin "object.__class__") "__get__" = some (some (.builtin "getset_descriptor.__get__"))) && decide (PySem.W.takesIn K (.builtin "object.__class__") = some true)
def facts (K : PySem.W.Frag) : Bool := (blts.all fun x => (He.Fa.free x).ok K) && ((gnames.all fun x => (He.Fa.glo x).ok K) && (lotB K && (tlB K && (conB K && clB K))))
theorem lot_txt {K : PySem.W.Frag} {mg : Str → Option Value} (h : lotB K = true) (c : clB K = true) (g : mg "Lot" = some (.ref (He.ga K "Lot"))) : LotTxt K mg (He.ga K "Lot") := by
  obtain ⟨h1, h⟩ := and_ok h
  obtain ⟨h2, h⟩ := and_ok h
  obtain ⟨h3, h⟩ := and_ok h
  obtain ⟨h6, h⟩ := and_ok h
  obtain ⟨h7, h⟩ := and_ok h
  obtain ⟨h8, h9⟩ := and_ok h
  obtain ⟨c1, c2⟩ := and_ok c
  have no : ∀ f, f ∈ (["low", "high", "inside", "modulus", "ups", "downs"] : List Str) → NoAttr K (He.ga K "Lot") f := fun f hf => He.noat_ok (List.all_eq_true.mp h2 f hf)
  exact ⟨He.cls_ok h1, no _ (by decide), no _ (by decide), no _ (by decide), no _ (by decide), no _ (by decide), no _ (by decide), g, of_decide_eq_true h6, of_decide_eq_true c1, of_decide_eq_true c2, of_decide_eq_true h7, of_decide_eq_true h8, of_decide_eq_true h9⟩
theorem law_src {P : Program} {w : World} {K : PySem.W.Frag} {h : Heap} {mg : Str → Option Value} (X : K.In h) (G : h.Ns mainGlobals mg) (b1 : facts K = true) (c : He5.SaysA [] fns K) (base : Heap) : LawSrc P w K mg base := by
  obtain ⟨f1, b1⟩ := and_ok b1
  obtain ⟨f2, b1⟩ := and_ok b1
  obtain ⟨f3, b1⟩ := and_ok b1
  obtain ⟨f5, b1⟩ := and_ok b1
  obtain ⟨f6, f7⟩ := and_ok b1
  have fr : ∀ x, x ∈ blts → mg x = none := fun x hx => He.free_ok X G (List.all_eq_true.mp f1 x hx)
  have gl : ∀ x, x ∈ gnames → mg x = some (.ref (He.ga K x)) := fun x hx => He.glo_ok X G (List.all_eq_true.mp f2 x hx)
  have at_ : ∀ (i : Nat) (x : Str) (st : Stmt), fns[i]? = some (dG x st) → x ∈ gnames → At K mg x st := fun i x st hi hm => ⟨gl _ hm, c.def_ i (d := dG x st) hi⟩
  have N : Nb mg := ⟨fr _ (by decide), fr _ (by decide), fr _ (by decide), fr _ (by decide), fr _ (by decide), fr _ (by decide), fr _ (by decide), fr _ (by decide), fr _ (by decide), fr _ (by decide), fr _ (by decide), fr _ (by decide), fr _ (by decide), fr _ (by decide)⟩
  have nMax : mg "max" = none := fr _ (by decide)
  have nZip : mg "zip" = none := fr _ (by decide)
  obtain ⟨g1, g2⟩ := and_ok f6
  obtain ⟨g2, g3⟩ := and_ok g2
  obtain ⟨g3, g4⟩ := and_ok g3
  obtain ⟨g4, g5⟩ := and_ok g4
  obtain ⟨g5, g6⟩ := and_ok g5
  obtain ⟨g6, g7⟩ := and_ok g6
  have gL := He.glo_ok X G g1
  have mF := He.int_ok X G g2
  have mM := He.int_ok X G g3
  have gG : mg "lcm" = some (.builtin "math.lcm") := PySem.W.mg_of X G (He.eqO_ok g4)
  have kE : ∃ t, mg "IN_EITHER" = some (.ref t) ∧ TakenAt K t opE := tk_ok X G g5 (by decide) (by decide +kernel) (fun a b => by cases a <;> cases b <;> decide +kernel)
  have kB : ∃ t, mg "IN_BOTH" = some (.ref t) ∧ TakenAt K t opB := tk_ok X G g6 (by decide) (by decide +kernel) (fun a b => by cases a <;> cases b <;> decide +kernel)
  have kL : ∃ t, mg "IN_FIRST_ALONE" = some (.ref t) ∧ TakenAt K t opL := tk_ok X G g7 (by decide) (by decide +kernel) (fun a b => by cases a <;> cases b <;> decide +kernel)
  have T := lot_txt f3 f7 gL
  obtain ⟨e1, e2⟩ := and_ok f5
  obtain ⟨e2, e3⟩ := and_ok e2
  have T0 : ExF K mg "TooLong" "BookError" ["most"] := exB_ok X G e1
  have xf := xfB_ok e2
  have xm := of_decide_eq_true e3
  obtain ⟨_, l⟩ := and_ok f3
  obtain ⟨_, l⟩ := and_ok l
  obtain ⟨l3, _⟩ := and_ok l
  have M := He.mkr_ok l3
  have FI : AtM K (He.ga K "Lot") (He.ma K (He.ga K "Lot") "__init__") "__init__" "Lot.__init__" s_lotI := c.def_ 38 (d := dM "Lot" "__init__" "Lot.__init__" s_lotI) rfl
  have KI : KeepsM P w K mg base (He.ma K (He.ga K "Lot") "__init__") 1 ["self", "low", "high", "inside", "modulus", "ups", "downs"] (spLotI (He.ga K "Lot")) := kp_lotI FI T N
  have KT : KeepsI P w K mg base "TooLong" ["most"] := ki_TooLong (c.def_ 39 (d := dM "TooLong" "__init__" "TooLong.__init__" (inClass (top 9) 0)) rfl) T0
  have S : Lots P w K mg base := ⟨T, M, KI, T0, KT⟩
  have G0 : Keeps CX0 P w K mg base "is_whole" 1 ["thing"] spWhole := kp_whole (at_ 0 _ _ rfl (by decide)) N
  have G1 : Keeps CX0 P w K mg base "is_whole_from" 2 ["thing", "low", "high"] spWholeF := kp_wholeF (at_ 1 _ _ rfl (by decide)) G0
  have G2 : Keeps CX0 P w K mg base "is_sequence" 1 ["thing"] spSeq := kp_seq (at_ 2 _ _ rfl (by decide)) N
  have G4 : Keeps CX0 P w K mg base "_check_core" 2 ["low", "high"] spCore := kp_core (at_ 4 _ _ rfl (by decide)) G0 mF
  have G5 : Keeps CX0 P w K mg base "_are_unlike_from" 3 ["numbers", "low", "high"] spUnl := kp_unl (at_ 5 _ _ rfl (by decide)) G1 G2
  have G7 : Keeps CX0 P w K mg base "_flags" 1 ["low", "high", "numbers"] spFlags := kp_flags (at_ 7 _ _ rfl (by decide))
  have G8 : Keeps CX0 P w K mg base "_places_of" 1 ["flags"] spPlaces := kp_places (at_ 8 _ _ rfl (by decide)) N
  have G10 : Keeps CX0 P w K mg base "_repeats" 1 ["flags", "length"] spRep := kp_rep (at_ 10 _ _ rfl (by decide))
  have G9 : Keeps CX0 P w K mg base "_least_modulus" 2 ["ups", "downs"] spLM := kp_lm (at_ 9 _ _ rfl (by decide)) G10 N
  have G11 : Keeps CX0 P w K mg base "_greatest_wrong" 1 ["low", "core", "ups", "downs"] spGW := kp_gw (at_ 11 _ _ rfl (by decide)) N
  have G12 : Keeps CX0 P w K mg base "_least_wrong" 1 ["low", "core", "ups", "downs"] spLW := kp_lw (at_ 12 _ _ rfl (by decide)) N
  have G6 : Keeps (CX P w) P w K mg base "_lot_of" 3 ["low", "high", "inside", "modulus", "ups", "downs"] (spLotOf K) := kp_lotof (at_ 6 _ _ rfl (by decide)) N S mF G7 G9 G11 G12 G8
  have G3 : Keeps (CX P w) P w K mg base "make_lot" 4 ["low", "high", "inside", "modulus", "ups", "downs"] (spMake K) := kp_make (at_ 3 _ _ rfl (by decide)) mM G4 G5 G1 G6
  have G19 : Keeps CX0 P w K mg base "lot_flags" 2 ["lot", "low", "high"] (spLF (He.ga K "Lot")) := kp_lf (at_ 19 _ _ rfl (by decide)) T N nMax G7
  have G17 : Keeps (CX P w) P w K mg base "_common_modulus" 3 ["one", "other"] (spCM K) := kp_cm (at_ 17 _ _ rfl (by decide)) S gG mM
  have G18 : Keeps CX0 P w K mg base "_rests_together" 2 ["modulus", "one", "other", "taken"] (spRT K) := kp_rt (at_ 18 _ _ rfl (by decide)) N G7
  have G16 : Keeps (CX P w) P w K mg base "_put_together" 4 ["one", "other", "taken"] (spPut K) := kp_put (at_ 16 _ _ rfl (by decide)) T N nMax nZip G17 G19 G18 G6
  have G13 : Keeps (CX P w) P w K mg base "either_lot" 5 ["one", "other"] (spMix2 K opE) := kp_either (at_ 13 _ _ rfl (by decide)) G16 kE
  have G14 : Keeps (CX P w) P w K mg base "both_lot" 5 ["one", "other"] (spMix2 K opB) := kp_both (at_ 14 _ _ rfl (by decide)) G16 kB
  have G15 : Keeps (CX P w) P w K mg base "less_lot" 5 ["one", "other"] (spMix2 K opL) := kp_less (at_ 15 _ _ rfl (by decide)) G16 kL
  have G21 : Keeps CX0 P w K mg base "least_by_size" 1 ["flags"] spBS := kp_bs (at_ 21 _ _ rfl (by decide)) N
  have G20 : Keeps (CX P w) P w K mg base "within" 4 ["one", "other"] (spWi K) := kp_wi (at_ 20 _ _ rfl (by decide)) T N nMax G17 G19 G21
  have G22 : Keeps CX0 P w K mg base "lot_members" 3 ["lot", "low", "high"] (spMem (He.ga K "Lot")) := kp_mem (at_ 22 _ _ rfl (by decide)) N G8 G19
  have G23 : Keeps CX0 P w K mg base "_law_mix" 1 ["_law_number", "_law_turn"] spMix := kp_mix (at_ 23 _ _ rfl (by decide)) N.int
  have G24 : Keeps CX0 P w K mg base "_law_hand" 1 ["_law_script"] (spHand K) := kp_hand (at_ 24 _ _ rfl (by decide)) N.int N.enumerate N.abs
  have G25 : Keeps CX0 P w K mg base "_law_draw" 2 ["_law_hand_here", "_law_many"] spDraw := kp_draw (at_ 25 _ _ rfl (by decide)) G23 N.int N.len
  have G26 : Keeps CX0 P w K mg base "_law_whole" 1 ["_law_thing"] spWhole := kp_lwh (at_ 26 _ _ rfl (by decide)) N
  have G27 : Keeps CX0 P w K mg base "_law_row_of" 2 ["_law_thing", "_law_low", "_law_high"] spRow := kp_row (at_ 27 _ _ rfl (by decide)) G26 N
  have G28 : Keeps CX0 P w K mg base "_law_telling_drawn" 3 ["_law_hand_here", "_law_far"] spTD := kp_td (at_ 28 _ _ rfl (by decide)) G25 N
  have G29 : Keeps CX0 P w K mg base "_law_has" 1 ["_law_telling", "_law_number"] spHas := kp_has (at_ 29 _ _ rfl (by decide)) N
  have G30 : Keeps CX0 P w K mg base "_law_parts" 1 ["_law_telling"] spParts := kp_parts (at_ 30 _ _ rfl (by decide)) N
  have G31 : Keeps CX0 P w K mg base "_law_form" 2 ["_law_telling"] spForm := kp_form (at_ 31 _ _ rfl (by decide)) N G29
  have G32 : Keeps CX0 P w K mg base "_law_seen" 1 ["_law_lot"] (spSeen (He.ga K "Lot")) := kp_seen (at_ 32 _ _ rfl (by decide)) T
  have G33 : Keeps CX0 P w K mg base "_law_is_form" 3 ["_law_lot", "_law_form_here"] (spIsF (He.ga K "Lot")) := kp_isf (at_ 33 _ _ rfl (by decide)) T N G26 G27 G32
  have G34 : Keeps CX0 P w K mg base "_law_lot_of" 5 ["_law_telling"] (spLo K) := kp_lo (at_ 34 _ _ rfl (by decide)) G30 G3
  have G35 : Keeps CX0 P w K mg base "_law_mixed" 2 ["_law_one", "_law_other", "_law_way"] spMx := kp_mx (at_ 35 _ _ rfl (by decide)) N nMax G29
  have G36 : Keeps CX0 P w K mg base "_law_long" 6 ["_law_one", "_law_other", "_law_way"] (spLong K) := kp_long (at_ 36 _ _ rfl (by decide)) T0 xf xm G13 G14 G15 G20
  exact ⟨N, T, G24, G25, G28, G31, G34, G32, G33, G29, G35, G36, G13, G14, G15, G20, G22, G3⟩
theorem law_at {K : PySem.W.Frag} {h : Heap} {mg : Str → Option Value} (X : K.In h) (G : h.Ns mainGlobals mg) (b1 : facts K = true) : mg "law" = some (.ref (He.ga K "law")) := by
  obtain ⟨_, b1⟩ := and_ok b1
  obtain ⟨f2, _⟩ := and_ok b1
  exact He.glo_ok X G (List.all_eq_true.mp f2 "law" (by decide))
theorem binds_law {K : PySem.W.Frag} {fd : FuncData} (F : FunD K "law" "law" (defArgs s_law) (defBody s_law) (defScope s_law) [] [] (He.ga K "law") fd) (s : Shared) (u : Value) : BindsTo s fd ⟨[u], []⟩ [("_law_script", u)] :=
  FunD.bindsA (ps := ["_law_script"]) F (fun _ _ _ _ _ _ us hl => match us, hl with | [_], _ => rfl) s [u] rfl
end My
set_option Elab.async false
set_option linter.all false
set_option maxRecDepth 100000
set_option maxHeartbeats 8000000
namespace My
open PySem PySem.Spec PyProof.Rows L2
abbrev R : PySem.W.OpenRow := PySem.W.OpenLaw.row PySem.Challenge.rw_truebooks_k01_lots_put_together
abbrev hk : PySem.W.Hook := hookM 5 facts
def ob (s : PySem.W.SharedT) : AlM := obsM facts (He.frG (HandSHeadRun.getT s) (He.asD (HandSHeadRun.getT s) 5))
theorem ob_eq (s : PySem.W.SharedT) : ob s = hk.obs s.abs := obsM_eq (HandSHeadRun.getT_eq s)
theorem run (w : World) : HandSHeadRun.RunEqI R (PySem.W.view R.prog [0, 52]) hk ob 12000 looseN w := by
  unfold HandSHeadRun.RunEqI
  kernel_rfl
end My
open PySem PySem.W PySem.Calls PyProof.Rows
theorem PySem.Challenge.cw_truebooks_k01_lots_put_together_holds : PySem.Challenge.rw_truebooks_k01_lots_put_together.Holds := by
  w_on; o_law
  refine HandSHeadRun.head_imp (r := My.R) (q := view My.R.prog [0, 52]) (H := My.hk) (ob := My.ob) (M := 12000) (loose := My.looseN) (d := HandSHeadRun.topDef My.R.prog 52) (kwd := []) My.ob_eq
    My.run (by kernel_rfl) (by kernel_rfl) (by kernel_rfl) (by rfl) (by first | assumption | decide +kernel) (by decide +kernel) ⟨rfl, rfl, rfl, rfl, rfl, by decide +kernel⟩ ?hw ?hc
  case hw => w_witness2
  case hc =>
    refine L2.walk_ofE (l := PySem.Challenge.rw_truebooks_k01_lots_put_together) (n := 63) (k := 7) (x := "_law_script") (CX := L2.CX0) rfl (by decide) (by kernel_rfl) ⟨rfl, by decide, by decide⟩ ?F (fun _ _ _ _ z => z)
    intro w mg fa h Y G hmg0
    obtain ⟨K, KX, c⟩ := Y
    have c1 : My.facts K = true := congrArg (fun z : My.AlM => z.1) c
    have c2 : He5.SaysA [] My.fns K := congrArg (fun z : My.AlM => z.2) c
    have hmg : mg ("law" : PySem.Str) = some (.ref fa) := by
      have e : (HandSHeadRun.topDef My.R.prog 52).name = ("law" : PySem.Str) := by kernel_rfl
      rw [← e]
      exact hmg0
    obtain ⟨fd0, F0⟩ := c2.def_ 37 (d := My.dG "law" My.s_law) rfl
    have ea : fa = He.ga K "law" := by
      have m0 := My.law_at KX G c1
      rw [hmg] at m0
      exact Value.ref.inj (Option.some.inj m0)
    subst ea
    exact ⟨K, fd0, My.spLaw K, KX, fun s u => My.binds_law F0 s u, fun H a ns hl _ hS => ⟨a, ns, rfl, hS, hl, fun _ => rfl⟩, fun base _ _ => My.kp_law F0 (My.law_src KX G c1 c2 base)⟩
