import PyProof.Rows.All
import Wide.All
import OpenK.AllK
import Wide.FinOn
import HandS.ForMost
import HandS.Wide
import HandS.Zip
import HandS.IsInst
import HandS.Style
import HandS.Defaults
import HandS.Deep
import HandS.StrMore
import HandS.Exc
import HandS.ExcOwn
import HandS.TryMany
import PyProof.ReprRoads
import HandS.SortInts
import HandS.Conv
import PyProof.LongRange
import KE.GoesEnum
import KE.GoesMore
import HandS.Rev
import HandS.SortKw
import KE.DataMinMax
import HandS.SetFor
import HandS.Gcd
import PyProof.P3Eq
import PySem.Challenge.RW_litdigits_k20_dark_pictures_of_great_num
set_option linter.all false
namespace Lit
/-! ## how often a place is lit -/
def cnt (R L u : Int) : Int := u / R * L + (if L < u % R then L else u % R)
def nthU (R L A : Int) : Int := A / L * R + A % L
theorem div_of {R u q r : Int} (h0 : 0 ≤ r) (h1 : r < R) (e : u = q * R + r) : u / R = q ∧ u % R = r := by
  subst e
  have hR : R ≠ 0 := by omega
  constructor
  · rw [Int.add_comm, Int.add_mul_ediv_right _ _ hR, Int.ediv_eq_zero_of_lt h0 h1, Int.zero_add]
  · rw [Int.add_comm, Int.add_mul_emod_self_right, Int.emod_eq_of_lt h0 h1]
theorem split (u : Int) (R : Int) : u = u / R * R + u % R := by
  have := Int.mul_ediv_add_emod u R
  rw [Int.mul_comm] at this
  omega
variable {R L : Int}
theorem cnt_at {q r : Int} (h0 : 0 ≤ r) (h1 : r < R) : cnt R L (q * R + r) = q * L + (if L < r then L else r) := by
  obtain ⟨e1, e2⟩ := div_of h0 h1 rfl (q := q)
  unfold cnt
  rw [e1, e2]
theorem cnt_step (hL : 0 < L) (hR : L ≤ R) (u : Int) : cnt R L (u + 1) = cnt R L u + (if u % R < L then 1 else 0) := by
  have e := split u R
  have m0 := Int.emod_nonneg u (show R ≠ 0 by omega)
  have m1 := Int.emod_lt_of_pos u (show 0 < R by omega)
  by_cases h : u % R + 1 < R
  · have e1 : cnt R L (u + 1) = u / R * L + (if L < u % R + 1 then L else u % R + 1) := by
      have := cnt_at (L := L) (q := u / R) (show (0 : Int) ≤ u % R + 1 by omega) h
      rw [← this]
      congr 1
      omega
    rw [e1]
    unfold cnt
    split <;> split <;> split <;> omega
  · have e0 : u % R = R - 1 := by omega
    have e1 : cnt R L (u + 1) = (u / R + 1) * L + (if L < 0 then L else 0) := by
      have := cnt_at (L := L) (q := u / R + 1) (show (0 : Int) ≤ 0 by omega) (show (0 : Int) < R by omega)
      rw [← this]
      congr 1
      have : (u / R + 1) * R = u / R * R + R := by rw [Int.add_mul, Int.one_mul]
      omega
    rw [e1, Int.add_mul, Int.one_mul]
    unfold cnt
    rw [e0]
    split <;> split <;> split <;> omega
theorem cnt_add (hL : 0 < L) (hR : L ≤ R) (u : Int) : ∀ n : Nat, cnt R L u ≤ cnt R L (u + n) ∧ cnt R L (u + n) ≤ cnt R L u + n
  | 0 => by simp
  | n + 1 => by
    obtain ⟨h1, h2⟩ := cnt_add hL hR u n
    have h := cnt_step hL hR (u + n)
    rw [show u + ((n + 1 : Nat) : Int) = u + n + 1 by omega, h]
    split <;> omega
theorem cnt_mono (hL : 0 < L) (hR : L ≤ R) {u v : Int} (h : u ≤ v) : cnt R L u ≤ cnt R L v := by
  have := (cnt_add hL hR u (v - u).toNat).1
  rwa [show u + ((v - u).toNat : Int) = v by omega] at this
theorem cnt_shift (hR : 0 < R) (u k : Int) : cnt R L (u + k * R) = cnt R L u + k * L := by
  have e := split u R
  have m0 := Int.emod_nonneg u (show R ≠ 0 by omega)
  have m1 := Int.emod_lt_of_pos u hR
  have h := cnt_at (L := L) (q := u / R + k) m0 m1
  have : (u / R + k) * R + u % R = u + k * R := by rw [Int.add_mul]; omega
  rw [this] at h
  rw [h]
  unfold cnt
  rw [Int.add_mul]
  omega
theorem nth_at (hL : 0 < L) (hR : L ≤ R) (A : Int) : cnt R L (nthU R L A) = A ∧ nthU R L A % R < L ∧ nthU R L A % R = A % L := by
  have e := split A L
  have m0 := Int.emod_nonneg A (show L ≠ 0 by omega)
  have m1 := Int.emod_lt_of_pos A hL
  have h := cnt_at (L := L) (q := A / L) m0 (show A % L < R by omega)
  have d := (div_of (q := A / L) m0 (show A % L < R by omega) rfl).2
  unfold nthU
  refine ⟨?_, ?_, d⟩
  · rw [h, if_neg (by omega)]
    omega
  · rw [d]; exact m1
theorem nth_cnt (hL : 0 < L) (hR : L ≤ R) {u : Int} (h : u % R < L) : nthU R L (cnt R L u) = u := by
  have m0 := Int.emod_nonneg u (show R ≠ 0 by omega)
  unfold cnt nthU
  rw [if_neg (by omega)]
  obtain ⟨e1, e2⟩ := div_of (R := L) (q := u / R) m0 h rfl
  rw [e1, e2]
  have := split u R
  omega
theorem nth_ge (hL : 0 < L) (hR : L ≤ R) {u A : Int} (h : cnt R L u ≤ A) : u ≤ nthU R L A := by
  obtain ⟨h1, h2, _⟩ := nth_at hL hR A
  apply Classical.byContradiction
  intro hn
  have s := cnt_step hL hR (nthU R L A)
  rw [if_pos h2, h1] at s
  have := cnt_mono hL hR (show nthU R L A + 1 ≤ u by omega)
  omega
theorem nth_lt (hL : 0 < L) (hR : L ≤ R) {A B : Int} (h : A < B) : nthU R L A < nthU R L B := by
  obtain ⟨h1, h2, _⟩ := nth_at hL hR A
  have s := cnt_step hL hR (nthU R L A)
  rw [if_pos h2, h1] at s
  have := nth_ge hL hR (u := nthU R L A + 1) (A := B) (by omega)
  omega
/-- the lit ticks from a tick on, one by one -/
theorem lit_list (hL : 0 < L) (hR : L ≤ R) (u : Int) : ∀ n : Nat, ((List.range n).map (fun k : Nat => u + (k : Int))).filter (fun v => decide (v % R < L)) = (List.range (cnt R L (u + n) - cnt R L u).toNat).map fun k : Nat => nthU R L (cnt R L u + k)
  | 0 => by simp
  | n + 1 => by
    rw [List.range_succ, List.map_append, List.filter_append, lit_list hL hR u n]
    have s := cnt_step hL hR (u + n)
    have m := (cnt_add hL hR u n).1
    rw [show u + ((n + 1 : Nat) : Int) = u + n + 1 by omega, s]
    by_cases h : (u + n) % R < L
    · rw [if_pos h]
      rw [show (cnt R L (u + ↑n) + 1 - cnt R L u).toNat = (cnt R L (u + ↑n) - cnt R L u).toNat + 1 by omega, List.range_succ, List.map_append]
      congr 1
      simp only [List.map_cons, List.map_nil, List.filter_cons, List.filter_nil, decide_eq_true h, if_true]
      congr 1
      rw [show cnt R L u + (((cnt R L (u + n) - cnt R L u).toNat : Nat) : Int) = cnt R L (u + n) by omega]
      exact (nth_cnt hL hR h).symm
    · rw [if_neg h]
      simp [h]
end Lit

set_option linter.all false
namespace Lit
variable {P S L : Int}
theorem mul_le {a b c : Int} (h : a ≤ b) (hc : 0 ≤ c) : a * c ≤ b * c := Int.mul_le_mul_of_nonneg_right h hc
theorem SR (hP : 0 < P) (hS : 0 < S) : S ≤ P * S ∧ 0 < P * S := by
  have := mul_le (show (1 : Int) ≤ P by omega) (show 0 ≤ S by omega)
  omega
/-- where a place is lit -/
theorem lit_iff (hP : 0 < P) (hS : 0 < S) (hL : 0 < L) (hLS : L ≤ S) {j : Int} (j0 : 0 ≤ j) (j1 : j < P) (t : Int) : ((t - j * S) % (P * S) < L) ↔ (j * S ≤ t % (P * S) ∧ t % (P * S) < j * S + L) := by
  obtain ⟨s1, s2⟩ := SR hP hS
  have e := split t (P * S)
  have m0 := Int.emod_nonneg t (show P * S ≠ 0 by omega)
  have m1 := Int.emod_lt_of_pos t s2
  have jS := mul_le (show j + 1 ≤ P by omega) (show 0 ≤ S by omega)
  have jS0 := mul_le j0 (show 0 ≤ S by omega)
  rw [Int.add_mul, Int.one_mul] at jS
  by_cases h : j * S ≤ t % (P * S)
  · have := (div_of (R := P * S) (u := t - j * S) (q := t / (P * S)) (r := t % (P * S) - j * S) (by omega) (by omega) (by omega)).2
    rw [this]
    omega
  · have := (div_of (R := P * S) (u := t - j * S) (q := t / (P * S) - 1) (r := t % (P * S) - j * S + P * S) (by omega) (by omega) (by rw [Int.sub_mul]; omega)).2
    rw [this]
    omega
theorem place_of (hP : 0 < P) (hS : 0 < S) (t : Int) : 0 ≤ t % (P * S) / S ∧ t % (P * S) / S < P ∧ t % (P * S) = t % (P * S) / S * S + t % (P * S) % S ∧ 0 ≤ t % (P * S) % S ∧ t % (P * S) % S < S := by
  obtain ⟨s1, s2⟩ := SR hP hS
  have m0 := Int.emod_nonneg t (show P * S ≠ 0 by omega)
  have m1 := Int.emod_lt_of_pos t s2
  refine ⟨Int.ediv_nonneg m0 (by omega), ?_, split _ _, Int.emod_nonneg _ (by omega), Int.emod_lt_of_pos _ hS⟩
  exact Int.ediv_lt_of_lt_mul hS m1
/-- one place is lit -/
theorem lit_one (hP : 0 < P) (hS : 0 < S) (hL : 0 < L) (hLS : L ≤ S) {j : Int} (j0 : 0 ≤ j) (j1 : j < P) (t : Int) : ((t - j * S) % (P * S) < L) ↔ (j = t % (P * S) / S ∧ t % (P * S) % S < L) := by
  rw [lit_iff hP hS hL hLS j0 j1]
  obtain ⟨p0, p1, p2, p3, p4⟩ := place_of hP hS t
  generalize t % (P * S) / S = q at *
  generalize t % (P * S) % S = r at *
  rw [p2]
  have aux : ∀ a b : Int, a < b → a * S + S ≤ b * S := fun a b h => by
    have := mul_le (show a + 1 ≤ b by omega) (show 0 ≤ S by omega)
    rw [Int.add_mul, Int.one_mul] at this
    exact this
  constructor
  · rintro ⟨h1, h2⟩
    have : j = q := by
      rcases Int.lt_trichotomy j q with h | h | h
      · have := aux _ _ h; omega
      · exact h
      · have := aux _ _ h; omega
    subst this
    exact ⟨rfl, by omega⟩
  · rintro ⟨h1, h2⟩
    subst h1
    omega
def tot (P S L : Int) (n : Nat) (t : Int) : Int := ((List.range n).map fun (j : Nat) => cnt (P * S) L (t - (j : Int) * S)).sum
theorem tot_succ (n : Nat) (t : Int) : tot P S L (n + 1) t = tot P S L n t + cnt (P * S) L (t - (n : Int) * S) := by
  unfold tot
  rw [List.range_succ, List.map_append, List.sum_append]
  simp
theorem tot_step (hP : 0 < P) (hS : 0 < S) (hL : 0 < L) (hLS : L ≤ S) (t : Int) : ∀ n : Nat, (n : Int) ≤ P → tot P S L n (t + 1) = tot P S L n t + (if t % (P * S) / S < n ∧ t % (P * S) % S < L then 1 else 0)
  | 0, _ => by
    obtain ⟨p0, _⟩ := place_of hP hS t
    rw [if_neg (by omega)]
    simp [tot]
  | n + 1, hn => by
    obtain ⟨s1, s2⟩ := SR hP hS
    rw [tot_succ, tot_succ, tot_step hP hS hL hLS t n (by omega), show t + 1 - (n : Int) * S = (t - (n : Int) * S) + 1 by omega, cnt_step hL (by omega)]
    have h := lit_one hP hS hL hLS (j := n) (by omega) (by omega) t
    generalize t % (P * S) / S = q at *
    generalize t % (P * S) % S = r at *
    by_cases h1 : (t - (n : Int) * S) % (P * S) < L
    · rw [if_pos h1]
      obtain ⟨h2, h3⟩ := h.mp h1
      rw [if_neg (by omega), if_pos (by omega)]
      omega
    · rw [if_neg h1]
      have h2 : ¬ ((n : Int) = q ∧ r < L) := fun z => h1 (h.mpr z)
      by_cases h3 : q < n ∧ r < L
      · rw [if_pos h3, if_pos (by omega)]
        omega
      · rw [if_neg h3, if_neg (by omega)]
        omega
theorem tot_add (hP : 0 < P) (hS : 0 < S) (hL : 0 < L) (hLS : L ≤ S) (t : Int) {n : Nat} (hn : (n : Int) = P) : ∀ k : Nat, tot P S L n (t + k) - tot P S L n t ≤ k ∧ (L = S → tot P S L n (t + k) - tot P S L n t = k)
  | 0 => by simp
  | k + 1 => by
    obtain ⟨h1, h2⟩ := tot_add hP hS hL hLS t hn k
    have s := tot_step hP hS hL hLS (t + k) n (by omega)
    obtain ⟨p0, p1, p2, p3, p4⟩ := place_of hP hS (t + k)
    rw [show t + ((k + 1 : Nat) : Int) = t + k + 1 by omega, s]
    constructor
    · split <;> omega
    · intro e
      have := h2 e
      rw [if_pos (by omega)]
      omega
/-- the sum of all places' lit ticks -/
theorem tot_win (hP : 0 < P) (hS : 0 < S) (hL : 0 < L) (hLS : L ≤ S) {a b : Int} (h : a ≤ b) {n : Nat} (hn : (n : Int) = P) : tot P S L n b - tot P S L n a ≤ b - a ∧ (L = S → tot P S L n b - tot P S L n a = b - a) := by
  have := tot_add hP hS hL hLS a hn (b - a).toNat
  rwa [show a + ((b - a).toNat : Int) = b by omega, show ((b - a).toNat : Int) = b - a by omega] at this
end Lit

set_option Elab.async false
set_option linter.all false
set_option maxRecDepth 100000
set_option maxHeartbeats 2000000
namespace Ev
open PySem PySem.Spec PyProof.Rows L2

abbrev D := PyData
abbrev Ro := List (Option (D × Bool))

/-! ## values and data -/
/-- a list that is read: tracked, or one that stands in the written part -/
def Ls (K : PySem.W.Frag) (H : Hp) (a : Addr) (xs : List V) : Prop := Rd H a (.lst xs) ∨ ∃ (its : List Value) (n : Nat), K.lookup a = some { cls := .type "list", data := .seq its.toArray n } ∧ its.length ≤ sizeLine ∧ Vals xs its
mutual
inductive Rp (K : PySem.W.Frag) (H : Hp) : V → D → Prop
  | non : Rp K H .non .none
  | bl (b : Bool) : Rp K H (.bl b) (.bool b)
  | int (i : Int) : Rp K H (.int i) (.int i)
  | str (x : Str) : Rp K H (.str x) (.str x)
  | lst {a : Addr} {xs : List V} {ds : List D} : Ls K H a xs → RpAll K H xs ds → Rp K H (.ref a) (.list ds)
  | tup {a : Addr} {xs : List V} {ds : List D} : SqT K H a xs → RpAll K H xs ds → Rp K H (.ref a) (.tuple ds)
  | dct {a : Addr} {kvs : List (Key × V)} {ds : List (D × D)} : H a = some (.dK kvs) → RpKv K H kvs ds → Rp K H (.ref a) (.dict ds)
inductive RpAll (K : PySem.W.Frag) (H : Hp) : List V → List D → Prop
  | nil : RpAll K H [] []
  | cons {v : V} {vs : List V} {d : D} {ds : List D} : Rp K H v d → RpAll K H vs ds → RpAll K H (v :: vs) (d :: ds)
inductive RpKv (K : PySem.W.Frag) (H : Hp) : List (Key × V) → List (D × D) → Prop
  | nil : RpKv K H [] []
  | cons {k : Key} {v : V} {kvs : List (Key × V)} {e d : D} {ds : List (D × D)} : Rp K H (kV k) e → Rp K H v d → RpKv K H kvs ds → RpKv K H ((k, v) :: kvs) ((e, d) :: ds)
end

theorem Same.seqT {K : PySem.W.Frag} {H H' : Hp} {a : Addr} {xs : List V} (e : Same H H') (h : SqT K H a xs) : SqT K H' a xs := by
  rcases h with (h | ⟨o, h⟩) | h
  · exact .inl (.inl (e _ _ h))
  · exact .inl (.inr ⟨o, e _ _ h⟩)
  · exact .inr h
theorem Same.rd {H H' : Hp} {a : Addr} {u : HO} (e : Same H H') (h : Rd H a u) : Rd H' a u := by
  rcases h with h | ⟨o, h⟩
  · exact .inl (e _ _ h)
  · exact .inr ⟨o, e _ _ h⟩
theorem Same.ls {K : PySem.W.Frag} {H H' : Hp} {a : Addr} {xs : List V} (e : Same H H') (h : Ls K H a xs) : Ls K H' a xs := by
  rcases h with h | h
  · exact .inl (Same.rd e h)
  · exact .inr h
theorem Ls.seq {K : PySem.W.Frag} {H : Hp} {a : Addr} {xs : List V} (h : Ls K H a xs) : SqL K H a xs := by
  rcases h with h | ⟨its, n, h1, h2, h3⟩
  · exact .inl h
  · exact .inr ⟨_, its.toArray, n, h1, rfl, rfl, rfl, by simpa using h2, by simpa using h3⟩
theorem Ls.of {K : PySem.W.Frag} {H : Hp} {a : Addr} {xs : List V} (h : H a = some (.lst xs)) : Ls K H a xs := .inl (Rd.of h)
theorem Ls.isL {X : Cx} {pins : List (Addr × Obj)} {σ : L2.St} {H : Hp} {s : Shared} {a : Addr} {xs : List V} (h : Ls X.K H a xs) (I : L2.Inv X pins σ H s) : ∃ (z : xs.length ≤ sizeLine) (its : List Value) (n : Nat), ∃ (r : Vals xs its), s.heap.get? a = some { cls := .type "list", data := .seq its.toArray n } := by
  rcases h with h | ⟨its, n, h1, h2, h3⟩
  · obtain ⟨z, its, n, r, e⟩ := h.ok I.hok
    exact ⟨z, its, n, r, e⟩
  · exact ⟨by rw [h3.length]; exact h2, its, n, h3, I.kIn _ _ h1⟩
section
variable {K : PySem.W.Frag} {H H' : Hp}
mutual
theorem Rp.mono (e : Same H H') : ∀ {v : V} {d : D}, Rp K H v d → Rp K H' v d
  | _, _, .non => .non
  | _, _, .bl b => .bl b
  | _, _, .int b => .int b
  | _, _, .str b => .str b
  | _, _, .lst s r => .lst (Same.ls e s) (RpAll.mono e r)
  | _, _, .tup s r => .tup (Same.seqT e s) (RpAll.mono e r)
  | _, _, .dct s r => .dct (e _ _ s) (RpKv.mono e r)
theorem RpAll.mono (e : Same H H') : ∀ {v : List V} {d : List D}, RpAll K H v d → RpAll K H' v d
  | _, _, .nil => .nil
  | _, _, .cons a b => .cons (Rp.mono e a) (RpAll.mono e b)
theorem RpKv.mono (e : Same H H') : ∀ {v : List (Key × V)} {d : List (D × D)}, RpKv K H v d → RpKv K H' v d
  | _, _, .nil => .nil
  | _, _, .cons a b c => .cons (Rp.mono e a) (Rp.mono e b) (RpKv.mono e c)
end
theorem RpAll.length : ∀ {v : List V} {d : List D}, RpAll K H v d → v.length = d.length
  | _, _, .nil => rfl
  | _, _, .cons _ b => by rw [List.length_cons, List.length_cons, RpAll.length b]
theorem RpAll.get : ∀ {v : List V} {d : List D} {i : Nat} {x : D}, RpAll K H v d → d[i]? = some x → ∃ y, v[i]? = some y ∧ Rp K H y x
  | _, _, _, _, .nil, h => by simp at h
  | _, _, 0, _, .cons a _, h => by
    simp only [List.getElem?_cons_zero, Option.some.injEq] at h
    subst h
    exact ⟨_, rfl, a⟩
  | _, _, i + 1, x, .cons _ b, h => by
    simp only [List.getElem?_cons_succ] at h
    obtain ⟨y, h1, h2⟩ := RpAll.get b h
    exact ⟨y, by simpa using h1, h2⟩
theorem RpAll.getV : ∀ {v : List V} {d : List D} {i : Nat} {y : V}, RpAll K H v d → v[i]? = some y → ∃ x, d[i]? = some x ∧ Rp K H y x
  | _, _, _, _, .nil, h => by simp at h
  | _, _, 0, _, .cons a _, h => by
    simp only [List.getElem?_cons_zero, Option.some.injEq] at h
    subst h
    exact ⟨_, rfl, a⟩
  | _, _, i + 1, x, .cons _ b, h => by
    simp only [List.getElem?_cons_succ] at h
    obtain ⟨y, h1, h2⟩ := RpAll.getV b h
    exact ⟨y, by simpa using h1, h2⟩
theorem RpAll.append : ∀ {v w : List V} {d e : List D}, RpAll K H v d → RpAll K H w e → RpAll K H (v ++ w) (d ++ e)
  | _, _, _, _, .nil, h => h
  | _, _, _, _, .cons a b, h => .cons a (RpAll.append b h)
theorem RpAll.snoc {v : List V} {d : List D} {x : V} {y : D} (h : RpAll K H v d) (r : Rp K H x y) : RpAll K H (v ++ [x]) (d ++ [y]) := h.append (.cons r .nil)
theorem RpAll.take : ∀ (n : Nat) {v : List V} {d : List D}, RpAll K H v d → RpAll K H (v.take n) (d.take n)
  | 0, _, _, _ => by simpa using RpAll.nil
  | n + 1, _, _, .nil => .nil
  | n + 1, _, _, .cons a b => .cons a (RpAll.take n b)
theorem RpAll.drop : ∀ (n : Nat) {v : List V} {d : List D}, RpAll K H v d → RpAll K H (v.drop n) (d.drop n)
  | 0, _, _, h => by simpa using h
  | n + 1, _, _, .nil => .nil
  | n + 1, _, _, .cons a b => RpAll.drop n b
theorem RpAll.reverse : ∀ {v : List V} {d : List D}, RpAll K H v d → RpAll K H v.reverse d.reverse
  | _, _, .nil => .nil
  | _, _, .cons a b => by
    rw [List.reverse_cons, List.reverse_cons]
    exact (RpAll.reverse b).snoc a
theorem RpAll.set : ∀ {v : List V} {d : List D} {x : V} {y : D} (i : Nat), RpAll K H v d → Rp K H x y → RpAll K H (v.set i x) (d.set i y)
  | _, _, _, _, _, .nil, _ => .nil
  | _, _, _, _, 0, .cons _ b, r => .cons r b
  | _, _, _, _, i + 1, .cons a b, r => .cons a (RpAll.set i b r)
end

/-! ## the heap in two parts: G, that never changes, and what is owned -/
/-- only new objects come -/
structure Ext (G H G' H' : Hp) : Prop where
  g : Same G G'
  gh : Same G' H'
  hold : ∀ b, H b ≠ none → H' b = H b
  gold : ∀ b, H b ≠ none → G' b = G b
theorem Ext.refl {G H : Hp} (s : Same G H) : Ext G H G H := ⟨Same.refl G, s, fun _ _ => rfl, fun _ _ => rfl⟩
theorem same_new {H : Hp} {p : Addr} {o : HO} (h : H p = none) : Same H (upd H p o) := fun b x e => by
  rw [upd_ne (ne_of_none e h)]
  exact e
theorem Same.none {G H : Hp} (s : Same G H) {p : Addr} (h : H p = none) : G p = none := Same.free s h
theorem Ext.new {G H : Hp} {p : Addr} {o : HO} (s : Same G H) (h : H p = none) : Ext G H (upd G p o) (upd H p o) where
  g := same_new (Same.none s h)
  gh := fun b x e => by
    by_cases hb : b = p
    · subst hb
      rw [upd_same] at e ⊢
      exact e
    · rw [upd_ne hb] at e ⊢
      exact s _ _ e
  hold := fun b hb => by rw [upd_ne (fun z => hb (by rw [z]; exact h))]
  gold := fun b hb => by rw [upd_ne (fun z => hb (by rw [z]; exact h))]
/-- a new object of which G does not tell yet -/
theorem Ext.hid {G H : Hp} {p : Addr} {o : HO} (s : Same G H) (h : H p = none) : Ext G H G (upd H p o) where
  g := Same.refl G
  gh := fun b x e => by
    rw [upd_ne (ne_of_none (s _ _ e) h)]
    exact s _ _ e
  hold := fun b hb => by rw [upd_ne (fun z => hb (by rw [z]; exact h))]
  gold := fun b hb => rfl
theorem Ext.trans {G H G1 H1 G2 H2 : Hp} (a : Ext G H G1 H1) (b : Ext G1 H1 G2 H2) : Ext G H G2 H2 where
  g := Same.trans a.g b.g
  gh := b.gh
  hold := fun x hx => by rw [b.hold x (by rw [a.hold x hx]; exact hx), a.hold x hx]
  gold := fun x hx => by rw [b.gold x (by rw [a.hold x hx]; exact hx), a.gold x hx]

/-- what an owned object holds -/
def OwH (K : PySem.W.Frag) (G : Hp) : D → HO → Prop
  | .list ds, .lst xs => RpAll K G xs ds
  | .dict ds, .dK kvs => RpKv K G kvs ds
  | _, _ => False
theorem OwH.mono {K : PySem.W.Frag} {G G' : Hp} {d : D} {o : HO} (e : Same G G') (h : OwH K G d o) : OwH K G' d o := by
  cases d <;> cases o <;> first | exact h.elim | exact RpAll.mono e h | exact RpKv.mono e h
theorem OwH.lst {K : PySem.W.Frag} {G : Hp} {ds : List D} {o : HO} (h : OwH K G (.list ds) o) : ∃ xs, o = .lst xs ∧ RpAll K G xs ds := by
  cases o <;> first | exact h.elim | exact ⟨_, rfl, h⟩
theorem OwH.dct {K : PySem.W.Frag} {G : Hp} {ds : List (D × D)} {o : HO} (h : OwH K G (.dict ds) o) : ∃ kvs, o = .dK kvs ∧ RpKv K G kvs ds := by
  cases o <;> first | exact h.elim | exact ⟨_, rfl, h⟩
/-- the owned object, as a value -/
theorem OwH.rp {K : PySem.W.Frag} {G H : Hp} {d : D} {o : HO} {a : Addr} (h : OwH K G d o) (e : Same G H) (ha : H a = some o) : Rp K H (.ref a) d := by
  cases d <;> cases o <;> first | exact h.elim | exact .lst (Ls.of ha) (RpAll.mono e h) | exact .dct ha (RpKv.mono e h)
/-- the frame's state -/
structure Fm (K : PySem.W.Frag) (Z : Addr → Prop) (H0 : Hp) (io : Option Addr) (ρ : Ro) (G : Hp) (σ : L2.St) (H : Hp) : Prop where
  sub : Same G H
  len : ρ.length = σ.length
  un : ∀ (i : Nat) (d : D), ρ[i]? = some (some (d, false)) → ∃ v, σ[i]? = some (some v) ∧ Rp K G v d
  ow : ∀ (i : Nat) (d : D), ρ[i]? = some (some (d, true)) → ∃ a o, σ[i]? = some (some (.ref a)) ∧ H a = some o ∧ G a = none ∧ ¬ Z a ∧ OwH K G d o
  dis : ∀ (i j : Nat) (d e : D) (a : Addr), ρ[i]? = some (some (d, true)) → ρ[j]? = some (some (e, true)) → σ[i]? = some (some (.ref a)) → σ[j]? = some (some (.ref a)) → i = j
  zg : ∀ b, Z b → G b = none ∧ H b = H0 b ∧ H0 b ≠ none
  at0 : ∀ a, io = some a → σ[0]? = some (some (.ref a))

section
variable {K : PySem.W.Frag} {Z : Addr → Prop} {H0 : Hp} {io : Option Addr} {ρ : Ro} {G G' H H' : Hp} {σ : L2.St}
theorem Fm.owL (f : Fm K Z H0 io ρ G σ H) {i : Nat} {ds : List D} (h : ρ[i]? = some (some (.list ds, true))) : ∃ a xs, σ[i]? = some (some (.ref a)) ∧ H a = some (.lst xs) ∧ G a = none ∧ ¬ Z a ∧ RpAll K G xs ds := by
  obtain ⟨a, o, h1, h3, h4, h5, h6⟩ := f.ow i _ h
  obtain ⟨xs, rfl, r⟩ := h6.lst
  exact ⟨a, xs, h1, h3, h4, h5, r⟩
theorem Fm.owD (f : Fm K Z H0 io ρ G σ H) {i : Nat} {ds : List (D × D)} (h : ρ[i]? = some (some (.dict ds, true))) : ∃ a kvs, σ[i]? = some (some (.ref a)) ∧ H a = some (.dK kvs) ∧ G a = none ∧ ¬ Z a ∧ RpKv K G kvs ds := by
  obtain ⟨a, o, h1, h3, h4, h5, h6⟩ := f.ow i _ h
  obtain ⟨xs, rfl, r⟩ := h6.dct
  exact ⟨a, xs, h1, h3, h4, h5, r⟩
theorem Fm.ext (f : Fm K Z H0 io ρ G σ H) (e : Ext G H G' H') : Fm K Z H0 io ρ G' σ H' where
  sub := e.gh
  len := f.len
  un := fun i d h => by
    obtain ⟨v, h1, h2⟩ := f.un i d h
    exact ⟨v, h1, h2.mono e.g⟩
  ow := fun i d h => by
    obtain ⟨a, o, h1, h3, h4, h5, h6⟩ := f.ow i d h
    have hn : H a ≠ none := by rw [h3]; exact fun z => nomatch z
    exact ⟨a, o, h1, by rw [e.hold a hn]; exact h3, by rw [e.gold a hn]; exact h4, h5, h6.mono e.g⟩
  dis := f.dis
  zg := fun b hb => by
    obtain ⟨h1, h2, h3⟩ := f.zg b hb
    have hn : H b ≠ none := by rw [h2]; exact h3
    exact ⟨by rw [e.gold b hn]; exact h1, by rw [e.hold b hn]; exact h2, h3⟩
  at0 := f.at0
/-- an owned list is frozen -/
theorem Fm.freeze (f : Fm K Z H0 io ρ G σ H) {i : Nat} {d : D} (h : ρ[i]? = some (some (d, true))) :
    ∃ G' a, Same G G' ∧ σ[i]? = some (some (.ref a)) ∧ Rp K G' (.ref a) d ∧ Fm K Z H0 io (ρ.set i (some (d, false))) G' σ H := by
  obtain ⟨a, o, h1, h3, h4, h5, h6⟩ := f.ow i d h
  have il : i < ρ.length := (List.getElem?_eq_some_iff.mp h).1
  have sg : Same G (upd G a o) := same_new h4
  have rp : Rp K (upd G a o) (.ref a) d := h6.rp sg upd_same
  refine ⟨upd G a o, a, sg, h1, rp, ?_⟩
  refine ⟨fun b u e => ?_, by rw [List.length_set]; exact f.len, fun j e hj => ?_, fun j e hj => ?_, fun j k d' e b hj hk => ?_, fun b hb => ?_, f.at0⟩
  · by_cases hb : b = a
    · subst hb
      rw [upd_same] at e
      rw [← e]
      exact h3
    · rw [upd_ne hb] at e
      exact f.sub _ _ e
  · by_cases hij : i = j
    · subst hij
      rw [List.getElem?_set_self il] at hj
      cases hj
      exact ⟨_, h1, rp⟩
    · rw [List.getElem?_set_ne hij] at hj
      obtain ⟨v, q1, q2⟩ := f.un j e hj
      exact ⟨v, q1, q2.mono sg⟩
  · by_cases hij : i = j
    · subst hij
      rw [List.getElem?_set_self il] at hj
      cases hj
    · rw [List.getElem?_set_ne hij] at hj
      obtain ⟨a', o', q1, q3, q4, q5, q6⟩ := f.ow j e hj
      have hne : a' ≠ a := fun z => hij (f.dis i j _ _ a h hj h1 (by rw [← z]; exact q1))
      exact ⟨a', o', q1, q3, by rw [upd_ne hne]; exact q4, q5, q6.mono sg⟩
  · have hij : i ≠ j := fun z => by
      subst z
      rw [List.getElem?_set_self il] at hj
      cases hj
    have hik : i ≠ k := fun z => by
      subst z
      rw [List.getElem?_set_self il] at hk
      cases hk
    rw [List.getElem?_set_ne hij] at hj
    rw [List.getElem?_set_ne hik] at hk
    exact f.dis j k d' e b hj hk
  · obtain ⟨q1, q2, q3⟩ := f.zg b hb
    have hne : b ≠ a := fun z => h5 (by rw [← z]; exact hb)
    exact ⟨by rw [upd_ne hne]; exact q1, q2, q3⟩
/-- a slot gets a value that is not owned -/
theorem Fm.set (f : Fm K Z H0 io ρ G σ H) {i : Nat} {v : V} {d : D} (r : Rp K G v d) (hi : io ≠ none → i ≠ 0) :
    Fm K Z H0 io (ρ.set i (some (d, false))) G (σ.set i (some v)) H where
  sub := f.sub
  len := by rw [List.length_set, List.length_set]; exact f.len
  un := fun j e hj => by
    by_cases hij : i = j
    · subst hij
      have il : i < ρ.length := by
        have := (List.getElem?_eq_some_iff.mp hj).1
        rwa [List.length_set] at this
      rw [List.getElem?_set_self il] at hj
      cases hj
      exact ⟨v, List.getElem?_set_self (by rw [← f.len]; exact il), r⟩
    · rw [List.getElem?_set_ne hij] at hj
      rw [List.getElem?_set_ne hij]
      exact f.un j e hj
  ow := fun j e hj => by
    by_cases hij : i = j
    · subst hij
      have il : i < ρ.length := by
        have := (List.getElem?_eq_some_iff.mp hj).1
        rwa [List.length_set] at this
      rw [List.getElem?_set_self il] at hj
      cases hj
    · rw [List.getElem?_set_ne hij] at hj
      rw [List.getElem?_set_ne hij]
      exact f.ow j e hj
  dis := fun j k d' e a hj hk h1 h2 => by
    have nj : i ≠ j := fun z => by
      subst z
      have il : i < ρ.length := by
        have := (List.getElem?_eq_some_iff.mp hj).1
        rwa [List.length_set] at this
      rw [List.getElem?_set_self il] at hj
      cases hj
    have nk : i ≠ k := fun z => by
      subst z
      have il : i < ρ.length := by
        have := (List.getElem?_eq_some_iff.mp hk).1
        rwa [List.length_set] at this
      rw [List.getElem?_set_self il] at hk
      cases hk
    rw [List.getElem?_set_ne nj] at hj h1
    rw [List.getElem?_set_ne nk] at hk h2
    exact f.dis j k d' e a hj hk h1 h2
  zg := f.zg
  at0 := fun a ha => by
    have q := hi (by rw [ha]; exact fun z => nomatch z)
    rw [List.getElem?_set_ne q]
    exact f.at0 a ha
end
end Ev

set_option Elab.async false
set_option linter.all false
set_option maxRecDepth 100000
set_option maxHeartbeats 2000000
namespace Ev
open PySem PySem.Spec PyProof.Rows L2

/-! ## the core language -/
inductive Bi where
  | abs | max | min | int | len | str | list | tuple | divmod | sum | all | repr | sorted | any
  deriving DecidableEq
inductive Mi where
  | join | zfill | index
  deriving DecidableEq
inductive CE where
  | var (i : Nat)
  | cst (d : D)
  | gcn (x : Str) (d : D)
  | bin (op : Operator) (a b : CE)
  | neg (a : CE)
  | not (a : CE)
  | cmp (op : CmpOp) (a b : CE)
  | chn (o1 o2 : CmpOp) (a b c : CE)
  | and (a b : CE)
  | or (a b : CE)
  | ite (c a b : CE)
  | tup (es : List CE)
  | lst (es : List CE)
  | idx (a b : CE)
  | idv (i : Nat) (b : CE)
  | slc (a : CE) (lo hi : Option CE)
  | rev (a : CE)
  | comp (kind : Nat) (its : List CE) (tg : List Nat) (one : Bool) (own : List Nat) (cnd : Option CE) (elt : CE)
  | call (f : Str) (perm : List Nat) (args : List CE)
  | cio (f : Str) (i : Nat) (args : List CE)
  | blt (f : Bi) (args : List CE)
  | isi (a : CE) (c : String)
  | mth (m : Mi) (o : CE) (args : List CE)
  | dct
  | lr1 (a : CE)
  | lr2 (a b : CE)
  | neq (i : Nat)
  | rpo (i : Nat)
  | mnd (a b : CE)
  | srs (a : CE)
  | gcd (a b : CE)

inductive Rs (α : Type) where
  | ok (a : α) (ρ : Ro)
  | er (c : Str) (f : Option (Str × D)) (ρ : Ro)
  | bad
def Rs.bind {α β : Type} (r : Rs α) (f : α → Ro → Rs β) : Rs β :=
  match r with
  | .ok a ρ => f a ρ
  | .er c e ρ => .er c e ρ
  | .bad => .bad
def ofO {α : Type} (o : Option α) (ρ : Ro) : Rs α :=
  match o with
  | some a => .ok a ρ
  | none => .bad
@[simp] theorem Rs.bind_ok {α β : Type} (a : α) (ρ : Ro) (f : α → Ro → Rs β) : (Rs.ok a ρ).bind f = f a ρ := rfl
@[simp] theorem Rs.bind_bad {α β : Type} (f : α → Ro → Rs β) : (Rs.bad : Rs α).bind f = .bad := rfl
@[simp] theorem ofO_some {α : Type} (a : α) (ρ : Ro) : ofO (some a) ρ = .ok a ρ := rfl
@[simp] theorem ofO_none {α : Type} (ρ : Ro) : ofO (none : Option α) ρ = .bad := rfl
/-- what a def does: its value and what its first argument has become -/
inductive CR where
  | ok (d : D) (d0 : Option D)
  | ow (ds : List D) (d0 : Option D)
  | er (c : Str) (f : Option (Str × D)) (d0 : Option D)
  | bad
abbrev Cal := Str → List D → CR

/-! ## the operations on data -/
def lim : Nat := 100000
def bigG (i : Int) : Bool := decide (i.natAbs < 2 ^ 4096)
def smG (i : Int) : Bool := decide (i.natAbs < 2 ^ 64)
def opD : Operator → D → D → Option D
  | .Add, .int i, .int j => some (.int (i + j))
  | .Add, .str a, .str b => if a.length + b.length ≤ lim then some (.str (a ++ b)) else none
  | .Add, .list a, .list b => if a.length + b.length ≤ lim then some (.list (a ++ b)) else none
  | .Add, .tuple a, .tuple b => if a ≠ [] ∧ b ≠ [] ∧ a.length + b.length ≤ lim then some (.tuple (a ++ b)) else none
  | .Sub, .int i, .int j => some (.int (i - j))
  | .Mult, .int i, .int j => if (smG i || smG j || (bigG i && bigG j)) = true then some (.int (i * j)) else none
  | .Mult, .list a, .int j => if 0 ≤ j ∧ j ≤ 100000 ∧ a.length * j.toNat ≤ lim then some (.list (List.replicate j.toNat a).flatten) else none
  | .Mult, .str a, .int j => if j = 1 then some (.str a) else if j = 0 then some (.str Str.empty) else none
  | .FloorDiv, .int i, .int j => if 0 < j ∧ bigG j = true then some (.int (i / j)) else none
  | .Mod, .int i, .int j => if 0 < j then some (.int (i % j)) else none
  | .Pow, .int i, .int j => if 0 ≤ j ∧ j ≤ 100 ∧ bigG i = true then some (.int (i ^ j.toNat)) else none
  | _, _, _ => none
def flatD : D → Bool
  | .none | .bool _ | .int _ | .str _ => true
  | _ => false
/-- == -/
def eqD (d e : D) : Option Bool := if (flatD d && flatD e || (SeqAt.shaped d && SeqAt.shaped e)) = true then some (PyData.eqv d e) else none
def inD (d : D) (ds : List D) (l : Bool) : Option Bool := if (flatD d && ds.all flatD || (l && SeqAt.shaped d && SeqAt.shaped (.list ds))) = true then some (ds.any fun z => PyData.eqv z d) else none
/-- the one sign of a text -/
def sign (x : Str) : Option Nat := match x.cps.toList with | [c] => some c | _ => none
def cmpD : CmpOp → D → D → Option Bool
  | .Eq, d, e => eqD d e
  | .NotEq, d, e => (eqD d e).map (!·)
  | .Lt, .int i, .int j => some (decide (i < j))
  | .LtE, .int i, .int j => some (decide (i ≤ j))
  | .Gt, .int i, .int j => some (decide (j < i))
  | .GtE, .int i, .int j => some (decide (j ≤ i))
  | .Lt, .str i, .str j => some (decide (i.cps.toList < j.cps.toList))
  | .LtE, .str i, .str j => some (!decide (j.cps.toList < i.cps.toList))
  | .Is, d, .none => some (match d with | .none => true | _ => false)
  | .IsNot, d, .none => some (match d with | .none => false | _ => true)
  | .IsNot, .bool a, .bool b => some (!decide (a = b))
  | .In, .str x, .str z => (sign x).map fun c => decide (c ∈ z.cps.toList)
  | .NotIn, .str x, .str z => (sign x).map fun c => !decide (c ∈ z.cps.toList)
  | .In, d, .list ds => inD d ds true
  | .NotIn, d, .list ds => (inD d ds true).map (!·)
  | .In, d, .tuple ds => inD d ds false
  | .NotIn, d, .tuple ds => (inD d ds false).map (!·)
  | _, _, _ => none
/-- o[i] -/
def idxD : D → D → Option D
  | .list ds, .int i => atI ds i
  | .tuple ds, .int i => atI ds i
  | .str z, .int i => if z.length ≤ lim then (atI z.cps.toList i).map fun c => .str ⟨#[c]⟩ else none
  | _, _ => none
/-- truth -/
def truD : D → Option Bool
  | .bool b => some b
  | .none => some false
  | .list xs => some (!xs.isEmpty)
  | .tuple xs => some (!xs.isEmpty)
  | _ => none
end Ev

set_option Elab.async false
set_option linter.all false
set_option maxRecDepth 100000
set_option maxHeartbeats 2000000
namespace Ev
open PySem PySem.Spec PyProof.Rows L2

theorem lim_le {n : Nat} (h : n ≤ lim) : n ≤ sizeLine := Nat.le_trans h (by decide)
theorem lim_le16 {n : Nat} (h : n ≤ lim) : n ≤ 16777216 := Nat.le_trans h (by decide)
/-- what an operation gives -/
def Giv (K : PySem.W.Frag) (G H : Hp) (d : D) (Q : VK) : Prop := ∀ v G' H', Ext G H G' H' → Rp K G' v d → Q v H'
def rD1 (K : PySem.W.Frag) (f : D → Option D) : V → Hp → VK → Prop := fun x H Q => ∃ G dx d, Same G H ∧ Rp K G x dx ∧ f dx = some d ∧ Giv K G H d Q
def rD2 (K : PySem.W.Frag) (f : D → D → Option D) : R2 := fun x y H Q => ∃ G dx dy d, Same G H ∧ Rp K G x dx ∧ Rp K G y dy ∧ f dx dy = some d ∧ Giv K G H d Q
def rDs (K : PySem.W.Frag) (f : List D → Option D) : List V → Hp → VK → Prop := fun xs H Q => ∃ G ds d, Same G H ∧ RpAll K G xs ds ∧ f ds = some d ∧ Giv K G H d Q
section
variable {X : Cx} {K : PySem.W.Frag} {G H : Hp} {Q : VK}
theorem Giv.sc (g : Giv K G H d Q) (s : Same G H) {v : V} (r : Rp K G v d) : Q v H := g v G H (Ext.refl s) r
theorem Giv.int {i : Int} (g : Giv K G H (.int i) Q) (s : Same G H) : Q (.int i) H := g.sc s (.int i)
theorem Giv.str {i : Str} (g : Giv K G H (.str i) Q) (s : Same G H) : Q (.str i) H := g.sc s (.str i)
theorem Giv.bl {i : Bool} (g : Giv K G H (.bool i) Q) (s : Same G H) : Q (.bl i) H := g.sc s (.bl i)
theorem Giv.lst {xs : List V} {ds : List D} (g : Giv K G H (.list ds) Q) (s : Same G H) (r : RpAll K G xs ds) : ∀ p, H p = none → Q (.ref p) (upd H p (.lst xs)) := fun p hp =>
  g _ _ _ (Ext.new s hp) (.lst (Ls.of upd_same) (r.mono (same_new (Same.none s hp))))
theorem Giv.tup {xs : List V} {ds : List D} (g : Giv K G H (.tuple ds) Q) (s : Same G H) (r : RpAll K G xs ds) : ∀ p, H p = none → Q (.ref p) (upd H p (.tup xs)) := fun p hp =>
  g _ _ _ (Ext.new s hp) (.tup (SqT.of upd_same) (r.mono (same_new (Same.none s hp))))

theorem op_catR : OpR X (binaryOp .Add) (fun x y H Q => ∃ l b xs zs, x = .ref l ∧ y = .ref b ∧ Ls X.K H l xs ∧ Ls X.K H b zs ∧ xs.length + zs.length ≤ sizeLine ∧ ∀ p, H p = none → Q (.ref p) (upd H p (.lst (xs ++ zs)))) := by
  intro pins s σ H x y v u Q I rx ry h
  obtain ⟨l, b, xs, zs, rfl, rfl, hH, hB, hz, q⟩ := h
  cases rx
  cases ry
  obtain ⟨z, its, n, r, e⟩ := hH.isL I
  obtain ⟨z2, its2, n2, r2, e2⟩ := hB.isL I
  have hl := r.length
  have hl2 := r2.length
  refine PySem.P.add_list e e2 ?_ (by rw [List.size_toArray, List.size_toArray]; omega)
  have ea : its.toArray ++ its2.toArray = (its ++ its2).toArray := by simp
  rw [ea]
  exact ⟨.ref _, _, I.lnew (t' := s.toks) (r.append r2) (by rw [List.length_append]; omega), rfl, q _ I.fresh⟩

theorem bigG_log {i : Int} (h : bigG i = true) : i.natAbs.log2 < 4096 := by
  have h' : i.natAbs < 2 ^ 4096 := of_decide_eq_true h
  exact PySem.Flt.log2_lt_of (by decide) h'
theorem smG_iff {i : Int} (h : smG i = true) : -(2 ^ 64) < i ∧ i < 2 ^ 64 := by
  have h' : i.natAbs < 2 ^ 64 := of_decide_eq_true h
  omega
theorem mulG_ok {i j : Int} (h : (smG i || smG j || (bigG i && bigG j)) = true) : IntMulOk i j := by
  rw [Bool.or_eq_true, Bool.or_eq_true, Bool.and_eq_true] at h
  rcases h with (h | h) | ⟨h1, h2⟩
  · exact (CMul.ok (.inl (smG_iff h)))
  · exact (CMul.ok (.inr (smG_iff h)))
  · have a := bigG_log h1
    have b := bigG_log h2
    exact (show CMulW i j from by unfold CMulW; omega).ok

theorem bin_add : OpR X (binaryOp .Add) (rD2 X.K (opD .Add)) := by
  rintro pins s σ H x y v u Q I rx ry ⟨G, dx, dy, d, sg, hx, hy, e, g⟩
  cases hx with
  | int i =>
    cases hy with
    | int j => cases (show some (PyData.int (i + j)) = some d from e); exact op_add pins s σ H _ _ _ _ Q I rx ry ⟨i, j, rfl, rfl, g.int sg⟩
    | _ => exact nomatch (show (none : Option D) = some d from e)
  | str i =>
    cases hy with
    | str j =>
      have e' : (if i.length + j.length ≤ lim then some (PyData.str (i ++ j)) else none) = some d := e
      split at e'
      · rename_i hl
        cases e'
        exact op_add_str pins s σ H _ _ _ _ Q I rx ry ⟨i, j, rfl, rfl, lim_le hl, g.str sg⟩
      · cases e'
    | _ => exact nomatch (show (none : Option D) = some d from e)
  | @lst a xs ds hs hr =>
    cases hy with
    | @lst b ys es ht hq =>
      have e' : (if ds.length + es.length ≤ lim then some (PyData.list (ds ++ es)) else none) = some d := e
      split at e'
      · rename_i hl
        cases e'
        refine op_catR pins s σ H _ _ _ _ Q I rx ry ⟨a, b, xs, ys, rfl, rfl, Same.ls sg hs, Same.ls sg ht, ?_, g.lst sg (hr.append hq)⟩
        rw [hr.length, hq.length]
        exact lim_le hl
      · cases e'
    | _ => exact nomatch (show (none : Option D) = some d from e)
  | @tup a xs ds hs hr =>
    cases hy with
    | @tup b ys es ht hq =>
      have e' : (if ds ≠ [] ∧ es ≠ [] ∧ ds.length + es.length ≤ lim then some (PyData.tuple (ds ++ es)) else none) = some d := e
      split at e'
      · rename_i hl
        cases e'
        refine op_catT pins s σ H _ _ _ _ Q I rx ry ⟨a, b, xs, ys, rfl, rfl, Same.seqT sg hs, Same.seqT sg ht, ?_, ?_, ?_, fun _ => g.tup sg (hr.append hq)⟩
        · intro z
          subst z
          cases hr
          exact hl.1 rfl
        · rw [hr.length, hq.length]
          exact lim_le hl.2.2
        · intro z
          subst z
          cases hq
          exact absurd rfl hl.2.1
      · cases e'
    | _ => exact nomatch (show (none : Option D) = some d from e)
  | non => exact nomatch (show (none : Option D) = some d by cases hy <;> exact e)
  | bl b => exact nomatch (show (none : Option D) = some d by cases hy <;> exact e)
  | dct h1 h2 => exact nomatch (show (none : Option D) = some d by cases hy <;> exact e)
/-- an operator that takes ints alone -/
theorem bin_int {op : Operator} {f : Int → Int → Option D} (hf : ∀ dx dy, opD op dx dy = match dx, dy with | .int i, .int j => f i j | _, _ => none)
    (h : ∀ (pins : List (Addr × Obj)) (s : Shared) (σ : L2.St) (H : Hp) (i j : Int) (v u : Value) (Q : VK) (G : Hp) (d : D), L2.Inv X pins σ H s → RelV (.int i) v → RelV (.int j) u → f i j = some d → Same G H → Giv X.K G H d Q →
      wpAny (model X.prog X.w) X.A (binaryOp op v u) (EP X pins σ Q) X.xe s) : OpR X (binaryOp op) (rD2 X.K (opD op)) := by
  rintro pins s σ H x y v u Q I rx ry ⟨G, dx, dy, d, sg, hx, hy, e, g⟩
  rw [hf] at e
  cases hx with
  | int i =>
    cases hy with
    | int j => exact h pins s σ H i j v u Q G d I rx ry e sg g
    | _ => cases e
  | _ => cases hy <;> cases e
theorem bin_sub : OpR X (binaryOp .Sub) (rD2 X.K (opD .Sub)) := by
  refine bin_int (f := fun i j => some (.int (i - j))) (fun dx dy => by cases dx <;> cases dy <;> rfl) ?_
  intro pins s σ H i j v u Q G d I rx ry e sg g
  cases e
  exact op_sub pins s σ H _ _ _ _ Q I rx ry ⟨i, j, rfl, rfl, g.int sg⟩
theorem op_mulG : OpR X (binaryOp .Mult) (rI (fun i j => IntMulOk i j) fun i j => .int (i * j)) := opI fun _ _ _ _ _ _ _ hc q => mul_int q hc
theorem op_repR : OpR X (binaryOp .Mult) (fun x y H Q => ∃ l k xs, x = .ref l ∧ y = .int k ∧ Ls X.K H l xs ∧ 0 ≤ k ∧ k ≤ 100000 ∧ xs.length * k.toNat ≤ lim ∧ ∀ p, H p = none → Q (.ref p) (upd H p (.lst (List.replicate k.toNat xs).flatten))) := by
  rintro pins s σ H x y v u Q I rx ry ⟨l, k, xs, rfl, rfl, hR, h1, h2, hz0, q⟩
  have hz := lim_le hz0
  cases rx
  obtain ⟨t, rfl⟩ := ry
  obtain ⟨z, its, n, r, e⟩ := hR.isL I
  have hl := r.length
  have hlen : its.toArray.size * k.toNat ≤ sizeLine := by rw [List.size_toArray, ← hl]; exact hz
  have hcap : ¬ its.toArray.size * k.toNat > (2 ^ 63 - 1) / 8 := by
    have : (sizeLine : Nat) ≤ (2 ^ 63 - 1) / 8 := by decide
    omega
  have hfit : ¬ (!Builtin.List.listFitsIndex k) = true := by
    rw [fitsIndex_both (by omega) (by omega)]
    exact Bool.false_ne_true
  have hlong : ¬ Builtin.List.listTooLong (its.toArray.size * k.toNat) = true := by
    rw [notLongL hlen]
    exact Bool.false_ne_true
  have hnew : List.foldl (fun x1 x2 => x1 ++ x2) #[] (List.replicate (if its.toArray.isEmpty = true then 0 else k.toNat) its.toArray) = (List.replicate k.toNat its).flatten.toArray := by
    have f0 : ∀ m : Nat, List.foldl (fun x1 x2 => x1 ++ x2) #[] (List.replicate m its.toArray) = (List.replicate m its).flatten.toArray := fun m => by
      have := foldl_rep its m []
      rw [List.nil_append] at this
      exact this
    rw [f0]
    cases its with
    | nil => simp
    | cons a r' => rw [if_neg (by simp)]
  refine wpAny_binaryOp_repeat_ref (T := "list") (U := "int") (by decide) ⟨_, e, rfl⟩ (fun s' => typeIs_int s' k t) noFill_list_mul F.fills_int_mul F.slot_int_rmul repeat_list F.slot_int_index.lookup
    (call_meets F.slot_int_rmul (typeIs_int s k t) F.entry_int_rmul (F.args_int_rmul_2 _ _) (int___rmul___int_list k t l its.toArray n)
      ⟨e, rfl, ⟨_, e, rfl⟩, call_meets F.slot_list_mul ⟨_, e, rfl⟩ F.entry_list_mul (F.args_list_mul_2 _ _) (AutoListH.list___mul___list_int_3 l its.toArray n k t hfit hcap hlong) ⟨e, ?_⟩⟩)
  rw [hnew]
  exact ⟨.ref _, _, I.lnew (t' := s.toks) (r.rep k.toNat) (by rw [PyProof.Rows.lm_len_rep_flat, Nat.mul_comm]; exact hz), rfl, q _ I.fresh⟩
theorem bin_mul : OpR X (binaryOp .Mult) (rD2 X.K (opD .Mult)) := by
  rintro pins s σ H x y v u Q I rx ry ⟨G, dx, dy, d, sg, hx, hy, e, g⟩
  cases hy with
  | int j =>
    cases hx with
    | int i =>
      have e' : (if (smG i || smG j || (bigG i && bigG j)) = true then some (PyData.int (i * j)) else none) = some d := e
      split at e'
      · rename_i hg
        cases e'
        exact op_mulG pins s σ H _ _ _ _ Q I rx ry ⟨i, j, rfl, rfl, mulG_ok hg, g.int sg⟩
      · cases e'
    | @lst a xs ds h1 h2 =>
      have e' : (if 0 ≤ j ∧ j ≤ 100000 ∧ ds.length * j.toNat ≤ lim then some (PyData.list (List.replicate j.toNat ds).flatten) else none) = some d := e
      split at e'
      · rename_i hg
        cases e'
        refine op_repR pins s σ H _ _ _ _ Q I rx ry ⟨a, j, xs, rfl, rfl, Same.ls sg h1, hg.1, hg.2.1, by rw [h2.length]; exact hg.2.2, g.lst sg ?_⟩
        have key : ∀ n : Nat, RpAll X.K G (List.replicate n xs).flatten (List.replicate n ds).flatten := by
          intro n
          induction n with
          | zero => exact .nil
          | succ n ih =>
            rw [List.replicate_succ, List.replicate_succ, List.flatten_cons, List.flatten_cons]
            exact h2.append ih
        exact key _
      · cases e'
    | str z =>
      have e' : (if j = 1 then some (PyData.str z) else if j = 0 then some (PyData.str Str.empty) else none) = some d := e
      obtain ⟨t, rfl⟩ := rx
      obtain ⟨t', rfl⟩ := ry
      split at e'
      · rename_i hj
        subst hj
        cases e'
        have h1 : ((1 : Int) == 1 || z.length == 0) = true := by rw [show ((1 : Int) == 1) = true from rfl]; rfl
        refine PySem.P.mul_str (by decide) (fun _ h => by rw [h1] at h; cases h) (fun _ h => by rw [h1] at h; cases h) ?_
        rw [if_neg (by decide), if_pos h1]
        exact ⟨.str z, _, I, ⟨t, rfl⟩, g.str sg⟩
      · split at e'
        · rename_i hj
          subst hj
          cases e'
          exact PySem.P.mul_str_none (by decide) (by decide) ⟨.str Str.empty, _, I.tok _, ⟨_, rfl⟩, g.str sg⟩
        · cases e'
    | _ => cases e
  | _ => cases hx <;> cases e
theorem bin_fdiv : OpR X (binaryOp .FloorDiv) (rD2 X.K (opD .FloorDiv)) := by
  refine bin_int (f := fun i j => if 0 < j ∧ bigG j = true then some (.int (i / j)) else none) (fun dx dy => by cases dx <;> cases dy <;> rfl) ?_
  intro pins s σ H i j v u Q G d I rx ry e sg g
  split at e
  · rename_i hg
    cases e
    exact op_fdivW pins s σ H _ _ _ _ Q I rx ry ⟨i, j, rfl, rfl, ⟨hg.1, by have := bigG_log hg.2; omega⟩, g.int sg⟩
  · cases e
theorem bin_mod : OpR X (binaryOp .Mod) (rD2 X.K (opD .Mod)) := by
  refine bin_int (f := fun i j => if 0 < j then some (.int (i % j)) else none) (fun dx dy => by cases dx <;> cases dy <;> rfl) ?_
  intro pins s σ H i j v u Q G d I rx ry e sg g
  split at e
  · rename_i hg
    cases e
    exact op_mod pins s σ H _ _ _ _ Q I rx ry ⟨i, j, rfl, rfl, hg, g.int sg⟩
  · cases e
theorem intBits_big {i : Int} (h : bigG i = true) : Builtin.Int.intBits i ≤ 4097 := by
  have h' := bigG_log h
  unfold Builtin.Int.intBits
  split <;> omega
theorem op_powG : OpR X (binaryOp .Pow) (rI (fun i j => 0 ≤ j ∧ (Builtin.Int.intBits i : Int) * j ≤ 2 ^ 27) fun i j => .int (i ^ j.toNat)) := opI fun _ _ _ _ _ _ _ hc q => pow_int hc.1 hc.2 q
theorem bin_pow : OpR X (binaryOp .Pow) (rD2 X.K (opD .Pow)) := by
  refine bin_int (f := fun i j => if 0 ≤ j ∧ j ≤ 100 ∧ bigG i = true then some (.int (i ^ j.toNat)) else none) (fun dx dy => by cases dx <;> cases dy <;> rfl) ?_
  intro pins s σ H i j v u Q G d I rx ry e sg g
  split at e
  · rename_i hg
    cases e
    refine op_powG pins s σ H _ _ _ _ Q I rx ry ⟨i, j, rfl, rfl, ⟨hg.1, ?_⟩, g.int sg⟩
    have hb := intBits_big hg.2.2
    have : (Builtin.Int.intBits i : Int) * j ≤ 4097 * 100 := Int.mul_le_mul (by omega) hg.2.1 hg.1 (by omega)
    omega
  · cases e
theorem bin_all {op : Operator} : OpR X (binaryOp op) (rD2 X.K (opD op)) := by
  cases op with
  | Add => exact bin_add
  | Sub => exact bin_sub
  | Mult => exact bin_mul
  | FloorDiv => exact bin_fdiv
  | Mod => exact bin_mod
  | Pow => exact bin_pow
  | _ =>
    rintro pins s σ H x y v u Q I rx ry ⟨G, dx, dy, d, sg, hx, hy, e, g⟩
    exact nomatch (show (none : Option D) = some d by rw [← e]; cases dx <;> cases dy <;> rfl)
end
end Ev

set_option Elab.async false
set_option linter.all false
set_option maxRecDepth 100000
set_option maxHeartbeats 2000000
namespace Ev
open PySem PySem.Spec PyProof.Rows L2
section
variable {X : Cx} {K : PySem.W.Frag} {G H : Hp} {Q : VK}
theorem flat_V {v : V} {d : D} (r : Rp K G v d) (f : flatD d = true) : flatV v = true := by
  cases r <;> first | rfl | cases f
theorem flat_eq {v w : V} {d e : D} (r : Rp K G v d) (q : Rp K G w e) (f : flatD d = true) (g : flatD e = true) : eqV v w = PyData.eqv d e := by
  cases r <;> first
    | exact absurd (show false = true from f) Bool.false_ne_true
    | (cases q <;> first | exact absurd (show false = true from g) Bool.false_ne_true | (simp only [eqV, PyData.eqv]) | rfl)
theorem flat_all : ∀ {vs : List V} {ds : List D}, RpAll K G vs ds → ds.all flatD = true → vs.all flatV = true
  | _, _, .nil, _ => rfl
  | _, _, .cons a b, f => by
    rw [List.all_cons, Bool.and_eq_true] at f ⊢
    exact ⟨flat_V a f.1, flat_all b f.2⟩
theorem flat_any {v : V} {d : D} (r : Rp K G v d) (f : flatD d = true) : ∀ {vs : List V} {ds : List D}, RpAll K G vs ds → ds.all flatD = true → inV v vs = ds.any fun z => PyData.eqv z d
  | _, _, .nil, _ => rfl
  | _, _, .cons a b, g => by
    rw [List.all_cons, Bool.and_eq_true] at g
    have ih := flat_any r f b g.2
    unfold inV at ih ⊢
    rw [List.any_cons, List.any_cons, ih, flat_eq a r g.1 f]
theorem flat_nd {d : D} (f : flatD d = true) : (match d with | .dict _ => false | _ => true) = true := by cases d <;> first | rfl | cases f
mutual
theorem Rp.dp : ∀ {v : V} {d : D}, Rp K G v d → d.canLay0 = true → Dp K G v d
  | _, _, .non, _ => .non
  | _, _, .bl b, _ => .bl b
  | _, _, .int i, _ => .int i
  | _, _, .str x, _ => .str x
  | _, _, .lst s r, h => .lst s.seq (RpAll.dp r (by simpa [PyData.canLay0] using h))
  | _, _, .tup s r, h => .tup s (RpAll.dp r (by simpa [PyData.canLay0] using h))
  | _, _, .dct _ _, h => by simp [PyData.canLay0] at h
theorem RpAll.dp : ∀ {v : List V} {d : List D}, RpAll K G v d → PyData.canLayAll0 d = true → DpAll K G v d
  | _, _, .nil, _ => .nil
  | _, _, .cons a b, h => by
    have h' : (PyData.canLay0 _ && PyData.canLayAll0 _) = true := h
    rw [Bool.and_eq_true] at h'
    exact .cons (Rp.dp a h'.1) (RpAll.dp b h'.2)
end
theorem shaped_lay {d : D} (h : SeqAt.shaped d = true) : d.canLay0 = true := by
  unfold SeqAt.shaped at h
  rw [Bool.and_eq_true] at h
  exact h.1
def rDb (K : PySem.W.Frag) (f : D → D → Option Bool) : R2 := fun x y H Q => ∃ G dx dy b, Same G H ∧ Rp K G x dx ∧ Rp K G y dy ∧ f dx dy = some b ∧ Giv K G H (.bool b) Q
theorem cmp_eq0 (hu : X.A.units + 100 < cLine) {pins : List (Addr × Obj)} {s : Shared} {σ : L2.St} {H G : Hp} {x y : V} {v u : Value} {Q : VK} {dx dy : D} (I : L2.Inv X pins σ H s) (rx : RelV x v) (ry : RelV y u) (sg : Same G H) (hx : Rp X.K G x dx) (hy : Rp X.K G y dy)
    (e : (flatD dx && flatD dy || (SeqAt.shaped dx && SeqAt.shaped dy)) = true) (q : Q (.bl (PyData.eqv dx dy)) H) : wpAny (model X.prog X.w) X.A (compareOp .Eq v u) (EP X pins σ Q) X.xe s := by
  rw [Bool.or_eq_true, Bool.and_eq_true, Bool.and_eq_true] at e
  have hs : ∀ {x y : V}, RelV x v → RelV y u → Rp X.K G x dx → Rp X.K G y dy → SeqAt.shaped dx = true → SeqAt.shaped dy = true → wpAny (model X.prog X.w) X.A (compareOp .Eq v u) (EP X pins σ Q) X.xe s := fun rx ry hx hy h1 h2 =>
    op_eqD (by omega) pins s σ H _ _ _ _ Q I rx ry ⟨dx, dy, (hx.mono sg).dp (shaped_lay h1), (hy.mono sg).dp (shaped_lay h2), h1, h2, q⟩
  rcases e with ⟨h1, h2⟩ | ⟨h1, h2⟩
  · have hsc : ∀ {x y : V}, RelV x v → RelV y u → scal x y = true → decide (x = y) = PyData.eqv dx dy → wpAny (model X.prog X.w) X.A (compareOp .Eq v u) (EP X pins σ Q) X.xe s := fun rx ry h e' => op_eq pins s σ H _ _ _ _ Q I rx ry ⟨h, by rw [e']; exact q⟩
    cases hx <;> first
      | exact absurd (show false = true from h1) Bool.false_ne_true
      | (cases hy <;> first
          | exact absurd (show false = true from h2) Bool.false_ne_true
          | exact hsc rx ry rfl (by simp only [PyData.eqv]; first | exact dec_int | exact dec_bl | exact dec_str | done | (exact decide_eq_false (fun z => nomatch z)) | (exact decide_eq_true rfl))
          | exact hs rx ry (by constructor) (by constructor) rfl rfl)
  · exact hs rx ry hx hy h1 h2
theorem cmp_ne0 (hu : X.A.units + 100 < cLine) {pins : List (Addr × Obj)} {s : Shared} {σ : L2.St} {H G : Hp} {x y : V} {v u : Value} {Q : VK} {dx dy : D} (I : L2.Inv X pins σ H s) (rx : RelV x v) (ry : RelV y u) (sg : Same G H) (hx : Rp X.K G x dx) (hy : Rp X.K G y dy)
    (e : (flatD dx && flatD dy || (SeqAt.shaped dx && SeqAt.shaped dy)) = true) (q : Q (.bl (!PyData.eqv dx dy)) H) : wpAny (model X.prog X.w) X.A (compareOp .NotEq v u) (EP X pins σ Q) X.xe s := by
  rw [Bool.or_eq_true, Bool.and_eq_true, Bool.and_eq_true] at e
  have hs : ∀ {x y : V}, RelV x v → RelV y u → Rp X.K G x dx → Rp X.K G y dy → SeqAt.shaped dx = true → SeqAt.shaped dy = true → wpAny (model X.prog X.w) X.A (compareOp .NotEq v u) (EP X pins σ Q) X.xe s := fun rx ry hx hy h1 h2 =>
    op_neD (by omega) pins s σ H _ _ _ _ Q I rx ry ⟨dx, dy, (hx.mono sg).dp (shaped_lay h1), (hy.mono sg).dp (shaped_lay h2), h1, h2, q⟩
  rcases e with ⟨h1, h2⟩ | ⟨h1, h2⟩
  · have hsc : ∀ {x y : V}, RelV x v → RelV y u → scal x y = true → decide (x = y) = PyData.eqv dx dy → wpAny (model X.prog X.w) X.A (compareOp .NotEq v u) (EP X pins σ Q) X.xe s := fun rx ry h e' => op_ne pins s σ H _ _ _ _ Q I rx ry ⟨h, by rw [e']; exact q⟩
    cases hx <;> first
      | exact absurd (show false = true from h1) Bool.false_ne_true
      | (cases hy <;> first
          | exact absurd (show false = true from h2) Bool.false_ne_true
          | exact hsc rx ry rfl (by simp only [PyData.eqv]; first | exact dec_int | exact dec_bl | exact dec_str | done | (exact decide_eq_false (fun z => nomatch z)) | (exact decide_eq_true rfl))
          | exact hs rx ry (by constructor) (by constructor) rfl rfl)
  · exact hs rx ry hx hy h1 h2
theorem eqD_some {dx dy : D} {b : Bool} (h : eqD dx dy = some b) : (flatD dx && flatD dy || (SeqAt.shaped dx && SeqAt.shaped dy)) = true ∧ b = PyData.eqv dx dy := by
  unfold eqD at h
  split at h
  · rename_i hc
    cases h
    exact ⟨hc, rfl⟩
  · cases h
theorem cmp_Eq (hu : X.A.units + 100 < cLine) : OpR X (compareOp .Eq) (rDb X.K (cmpD .Eq)) := by
  rintro pins s σ H x y v u Q I rx ry ⟨G, dx, dy, b, sg, hx, hy, e, g⟩
  obtain ⟨h1, h2⟩ := eqD_some (show eqD dx dy = some b by rw [← e]; cases dx <;> rfl)
  exact cmp_eq0 hu I rx ry sg hx hy h1 (by rw [← h2]; exact g.bl sg)
theorem cmp_Ne (hu : X.A.units + 100 < cLine) : OpR X (compareOp .NotEq) (rDb X.K (cmpD .NotEq)) := by
  rintro pins s σ H x y v u Q I rx ry ⟨G, dx, dy, b, sg, hx, hy, e, g⟩
  have e' : (eqD dx dy).map (!·) = some b := by rw [← e]; cases dx <;> rfl
  cases h : eqD dx dy with
  | none => rw [h] at e'; cases e'
  | some c =>
    rw [h] at e'
    cases e'
    obtain ⟨h1, h2⟩ := eqD_some h
    exact cmp_ne0 hu I rx ry sg hx hy h1 (by rw [← h2]; exact g.bl sg)
/-- orders of ints, of texts -/
theorem cmp_ord {op : CmpOp} {f : Int → Int → Bool} {g' : Str → Str → Option Bool} (hf : ∀ dx dy, cmpD op dx dy = match dx, dy with | .int i, .int j => some (f i j) | .str i, .str j => g' i j | _, _ => none)
    (h1 : OpR X (compareOp op) (rI0 fun i j => .bl (f i j))) (h2 : ∀ i j b, g' i j = some b → OpR X (compareOp op) (fun x y H Q => x = .str i ∧ y = .str j ∧ Q (.bl b) H)) : OpR X (compareOp op) (rDb X.K (cmpD op)) := by
  rintro pins s σ H x y v u Q I rx ry ⟨G, dx, dy, b, sg, hx, hy, e, g⟩
  rw [hf] at e
  cases hx with
  | int i =>
    cases hy with
    | int j => cases e; exact h1 pins s σ H _ _ _ _ Q I rx ry ⟨i, j, rfl, rfl, g.bl sg⟩
    | _ => cases e
  | str i =>
    cases hy with
    | str j => exact h2 i j b e pins s σ H _ _ _ _ Q I rx ry ⟨rfl, rfl, g.bl sg⟩
    | _ => cases e
  | _ => cases hy <;> cases e
theorem cmp_Lt : OpR X (compareOp .Lt) (rDb X.K (cmpD .Lt)) := cmp_ord (fun dx dy => by cases dx <;> cases dy <;> rfl) op_lt fun i j b e => by
  cases e
  rintro pins s σ H x y v u Q I rx ry ⟨rfl, rfl, q⟩
  exact op_lt_str pins s σ H _ _ _ _ Q I rx ry ⟨i, j, rfl, rfl, q⟩
theorem cmp_Le : OpR X (compareOp .LtE) (rDb X.K (cmpD .LtE)) := cmp_ord (fun dx dy => by cases dx <;> cases dy <;> rfl) op_le fun i j b e => by
  cases e
  rintro pins s σ H x y v u Q I rx ry ⟨rfl, rfl, q⟩
  exact op_le_str pins s σ H _ _ _ _ Q I rx ry ⟨i, j, rfl, rfl, q⟩
theorem cmp_Gt : OpR X (compareOp .Gt) (rDb X.K (cmpD .Gt)) := cmp_ord (g' := fun _ _ => none) (fun dx dy => by cases dx <;> cases dy <;> rfl) op_gt fun i j b e => by cases e
theorem cmp_Ge : OpR X (compareOp .GtE) (rDb X.K (cmpD .GtE)) := cmp_ord (g' := fun _ _ => none) (fun dx dy => by cases dx <;> cases dy <;> rfl) op_ge fun i j b e => by cases e
theorem cmp_Is : OpR X (compareOp .Is) (rDb X.K (cmpD .Is)) := by
  rintro pins s σ H x y v u Q I rx ry ⟨G, dx, dy, b, sg, hx, hy, e, g⟩
  cases hy with
  | non =>
    refine op_isN pins s σ H _ _ _ _ Q I rx ry ⟨rfl, ?_⟩
    cases hx <;> (cases e; exact g.bl sg)
  | _ => cases hx <;> cases e
theorem cmp_IsNot : OpR X (compareOp .IsNot) (rDb X.K (cmpD .IsNot)) := by
  rintro pins s σ H x y v u Q I rx ry ⟨G, dx, dy, b, sg, hx, hy, e, g⟩
  cases hy with
  | non =>
    refine op_notN pins s σ H _ _ _ _ Q I rx ry ⟨rfl, ?_⟩
    cases hx <;> (cases e; exact g.bl sg)
  | bl c =>
    cases hx with
    | bl a => cases e; exact op_notBl pins s σ H _ _ _ _ Q I rx ry ⟨a, c, rfl, rfl, g.bl sg⟩
    | _ => cases e
  | _ => cases hx <;> cases e
end
end Ev
namespace Ev
open PySem PySem.Spec PyProof.Rows L2
section
variable {X : Cx} {K : PySem.W.Frag} {G H : Hp} {Q : VK}
theorem inD_some {d : D} {ds : List D} {l b : Bool} (h : inD d ds l = some b) : (flatD d && ds.all flatD || (l && SeqAt.shaped d && SeqAt.shaped (.list ds))) = true ∧ b = ds.any fun z => PyData.eqv z d := by
  unfold inD at h
  split at h
  · rename_i hc
    cases h
    exact ⟨hc, rfl⟩
  · cases h
/-- x in a list, a tuple -/
theorem in_seq (hu : X.A.units + 100 < cLine) {pins : List (Addr × Obj)} {s : Shared} {σ : L2.St} {H G : Hp} {x : V} {a : Addr} {xs : List V} {v : Value} {Q : VK} {d : D} {ds : List D} {l b : Bool} (I : L2.Inv X pins σ H s) (rx : RelV x v) (sg : Same G H)
    (hx : Rp X.K G x d) (hs : Ls X.K G a xs ∨ (l = false ∧ SqT X.K G a xs)) (hr : RpAll X.K G xs ds) (e : inD d ds l = some b) (q : Q (.bl b) H) : wpAny (model X.prog X.w) X.A (compareOp .In v (.ref a)) (EP X pins σ Q) X.xe s := by
  obtain ⟨h1, h2⟩ := inD_some e
  rw [Bool.or_eq_true, Bool.and_eq_true, Bool.and_eq_true, Bool.and_eq_true] at h1
  rcases h1 with ⟨f1, f2⟩ | ⟨⟨hl, f1⟩, f2⟩
  · refine op_in_seq pins s σ H x (.ref a) v (.ref a) Q I rx rfl ⟨a, xs, rfl, ?_, flat_V hx f1, flat_all hr f2, ?_⟩
    · rcases hs with hs | ⟨_, hs⟩
      · exact .inl ((Same.ls sg hs).seq)
      · exact .inr (Same.seqT sg hs)
    · rw [if_neg Bool.false_ne_true, flat_any hx f1 hr f2, ← h2]
      exact q
  · rcases hs with hs | ⟨h0, _⟩
    · refine op_inD (by omega) pins s σ H x (.ref a) v (.ref a) Q I rx rfl ⟨d, ds, (hx.mono sg).dp (shaped_lay f1), Rp.dp (.lst (Same.ls sg hs) (hr.mono sg)) (shaped_lay f2), f1, f2, ?_⟩
      rw [← h2]
      exact q
    · rw [h0] at hl
      cases hl
theorem notin_seq (hu : X.A.units + 100 < cLine) {pins : List (Addr × Obj)} {s : Shared} {σ : L2.St} {H G : Hp} {x : V} {a : Addr} {xs : List V} {v : Value} {Q : VK} {d : D} {ds : List D} {l b : Bool} (I : L2.Inv X pins σ H s) (rx : RelV x v) (sg : Same G H)
    (hx : Rp X.K G x d) (hs : Ls X.K G a xs ∨ (l = false ∧ SqT X.K G a xs)) (hr : RpAll X.K G xs ds) (e : inD d ds l = some b) (q : Q (.bl (!b)) H) : wpAny (model X.prog X.w) X.A (compareOp .NotIn v (.ref a)) (EP X pins σ Q) X.xe s := by
  obtain ⟨h1, h2⟩ := inD_some e
  rw [Bool.or_eq_true, Bool.and_eq_true, Bool.and_eq_true, Bool.and_eq_true] at h1
  rcases h1 with ⟨f1, f2⟩ | ⟨⟨hl, f1⟩, f2⟩
  · refine op_notIn_seq pins s σ H x (.ref a) v (.ref a) Q I rx rfl ⟨a, xs, rfl, ?_, flat_V hx f1, flat_all hr f2, ?_⟩
    · rcases hs with hs | ⟨_, hs⟩
      · exact .inl ((Same.ls sg hs).seq)
      · exact .inr (Same.seqT sg hs)
    · rw [if_pos rfl, flat_any hx f1 hr f2, ← h2]
      exact q
  · rcases hs with hs | ⟨h0, _⟩
    · refine op_notInD (by omega) pins s σ H x (.ref a) v (.ref a) Q I rx rfl ⟨d, ds, (hx.mono sg).dp (shaped_lay f1), Rp.dp (.lst (Same.ls sg hs) (hr.mono sg)) (shaped_lay f2), f1, f2, ?_⟩
      rw [← h2]
      exact q
    · rw [h0] at hl
      cases hl
theorem sign_eq {x : Str} {c : Nat} (h : sign x = some c) : x = ⟨#[c]⟩ := by
  obtain ⟨⟨l⟩⟩ := x
  unfold sign at h
  match l, h with
  | [], h => cases h
  | [d], h => cases h; rfl
  | a :: b :: r, h => cases h
theorem cmp_In (hu : X.A.units + 100 < cLine) : OpR X (compareOp .In) (rDb X.K (cmpD .In)) := by
  rintro pins s σ H x y v u Q I rx ry ⟨G, dx, dy, b, sg, hx, hy, e, g⟩
  cases hy with
  | @lst a xs ds hs hr =>
    cases ry
    exact in_seq (l := true) hu I rx sg hx (.inl hs) hr (by rw [← e]; cases dx <;> rfl) (g.bl sg)
  | @tup a xs ds hs hr =>
    cases ry
    exact in_seq (l := false) hu I rx sg hx (.inr ⟨rfl, hs⟩) hr (by rw [← e]; cases dx <;> rfl) (g.bl sg)
  | str z =>
    cases hx with
    | str w =>
      have e' : ((sign w).map fun c => decide (c ∈ z.cps.toList)) = some b := e
      cases hw : sign w with
      | none => rw [hw] at e'; cases e'
      | some c =>
      rw [hw] at e'
      cases e'
      obtain rfl := sign_eq hw
      exact op_in_sign pins s σ H _ _ _ _ Q I rx ry ⟨c, z, rfl, rfl, g.bl sg⟩
    | _ => cases e
  | _ => cases hx <;> cases e
theorem cmp_NotIn (hu : X.A.units + 100 < cLine) : OpR X (compareOp .NotIn) (rDb X.K (cmpD .NotIn)) := by
  rintro pins s σ H x y v u Q I rx ry ⟨G, dx, dy, b, sg, hx, hy, e, g⟩
  cases hy with
  | @lst a xs ds hs hr =>
    cases ry
    have e' : (inD dx ds true).map (!·) = some b := by rw [← e]; cases dx <;> rfl
    cases h : inD dx ds true with
    | none => rw [h] at e'; cases e'
    | some c =>
      rw [h] at e'
      cases e'
      exact notin_seq (l := true) hu I rx sg hx (.inl hs) hr h (g.bl sg)
  | @tup a xs ds hs hr =>
    cases ry
    have e' : (inD dx ds false).map (!·) = some b := by rw [← e]; cases dx <;> rfl
    cases h : inD dx ds false with
    | none => rw [h] at e'; cases e'
    | some c =>
      rw [h] at e'
      cases e'
      exact notin_seq (l := false) hu I rx sg hx (.inr ⟨rfl, hs⟩) hr h (g.bl sg)
  | str z =>
    cases hx with
    | str w =>
      have e' : ((sign w).map fun c => !decide (c ∈ z.cps.toList)) = some b := e
      cases hw : sign w with
      | none => rw [hw] at e'; cases e'
      | some c =>
      rw [hw] at e'
      cases e'
      obtain rfl := sign_eq hw
      exact op_notIn_sign pins s σ H _ _ _ _ Q I rx ry ⟨c, z, rfl, rfl, g.bl sg⟩
    | _ => cases e
  | _ => cases hx <;> cases e
theorem cmp_all {op : CmpOp} (hu : X.A.units + 100 < cLine) : OpR X (compareOp op) (rDb X.K (cmpD op)) := by
  cases op with
  | Eq => exact cmp_Eq hu
  | NotEq => exact cmp_Ne hu
  | Lt => exact cmp_Lt
  | LtE => exact cmp_Le
  | Gt => exact cmp_Gt
  | GtE => exact cmp_Ge
  | Is => exact cmp_Is
  | IsNot => exact cmp_IsNot
  | In => exact cmp_In hu
  | NotIn => exact cmp_NotIn hu
end
end Ev

set_option Elab.async false
set_option linter.all false
set_option maxRecDepth 100000
set_option maxHeartbeats 2000000
namespace Ev
open PySem PySem.Spec PyProof.Rows L2

/-! ## the evaluator -/
def negD : D → Option D
  | .int i => some (.int (-i))
  | _ => none
def cutD (xs : List D) (lo hi : Option Int) : List D := (xs.drop (HT.sIx xs.length 0 lo)).take (HT.sIx xs.length xs.length hi - HT.sIx xs.length 0 lo)
def slcD : D → Option Int → Option Int → Option D
  | .list xs, lo, hi => some (.list (cutD xs lo hi))
  | .tuple xs, lo, hi => if HT.sIx xs.length 0 lo = 0 ∧ HT.sIx xs.length xs.length hi = xs.length then none else some (.tuple (cutD xs lo hi))
  | .str z, lo, hi => if z.length ≤ lim then some (.str (cutS z lo hi)) else none
  | _, _, _ => none
def revD : D → Option D
  | .list xs => some (.list xs.reverse)
  | _ => none
def intsOf : List D → Option (List Int)
  | [] => some []
  | .int i :: r => (intsOf r).map (i :: ·)
  | _ => none
def boolsOf : List D → Option (List Bool)
  | [] => some []
  | .bool b :: r => (boolsOf r).map (b :: ·)
  | _ => none
def strsOf : List D → Option (List Str)
  | [] => some []
  | .str b :: r => (strsOf r).map (b :: ·)
  | _ => none
def absD : List D → Option D
  | [.int i] => some (.int (if i < 0 then -i else i))
  | _ => none
def lowL : Int → List Int → Int
  | m, [] => m
  | m, x :: xs => lowL (if x < m then x else m) xs
def topL : Int → List Int → Int
  | m, [] => m
  | m, x :: xs => topL (if m < x then x else m) xs
def maxD : List D → Option D
  | [.int i, .int j] => some (.int (if j > i then j else i))
  | [.list xs] => (intsOf xs).bind fun is => match is with
    | [] => none
    | a :: r => some (.int (topL a r))
  | _ => none
def minD : List D → Option D
  | [.int i, .int j] => some (.int (if j < i then j else i))
  | [.list xs] => (intsOf xs).bind fun is => match is with
    | [] => none
    | a :: r => some (.int (lowL a r))
  | _ => none
/-- min(a list, default=..) -/
def mndD : D → D → Option D
  | .list xs, d => (intsOf xs).bind fun is => match is with
    | [] => some d
    | a :: r => some (.int (lowL a r))
  | _, _ => none
def intD : List D → Option D
  | [.int i] => some (.int i)
  | [.bool b] => some (.int (if b then 1 else 0))
  | _ => none
def lenD : List D → Option D
  | [.list xs] => some (.int xs.length)
  | [.tuple xs] => some (.int xs.length)
  | [.str z] => if z.length ≤ lim then some (.int z.length) else none
  | _ => none
def strD : List D → Option D
  | [.int i] => if i.natAbs.log2 < 1920 then some (.str (toString i)) else none
  | _ => none
def oneS (c : Nat) : D := .str ⟨#[c]⟩
def listD : List D → Option D
  | [.list xs] => some (.list xs)
  | [.tuple xs] => some (.list xs)
  | [.str z] => if z.length ≤ lim then some (.list (z.cps.toList.map oneS)) else none
  | _ => none
def tupleD : List D → Option D
  | [.list xs] => some (.tuple xs)
  | [.tuple xs] => some (.tuple xs)
  | _ => none
def divmodD : List D → Option D
  | [.int i, .int j] => if 0 < j ∧ bigG j = true then some (.tuple [.int (i / j), .int (i % j)]) else none
  | _ => none
def sumD : List D → Option D
  | [.list xs] => (intsOf xs).map fun is => .int is.sum
  | _ => none
def allD : List D → Option D
  | [.list xs] => (boolsOf xs).map fun bs => .bool (bs.all id)
  | _ => none
def anyD : List D → Option D
  | [.list xs] => (boolsOf xs).map fun bs => .bool (bs.any id)
  | _ => none
/-- gcd(a, b) -/
def gcdD : D → D → Option D
  | .int a, .int b => some (.int ((Nat.gcd a.natAbs b.natAbs : Nat) : Int))
  | _, _ => none
def reprOk (d : D) : Bool := d.showable && !d.hasDict && decide (d.depth ≤ 50) && decide (d.shown.length ≤ lim)
def reprD : List D → Option D
  | [.dict []] => some (.str (PyData.dict []).shown)
  | [d] => if reprOk d = true then some (.str d.shown) else none
  | _ => none
def sortedD : List D → Option D
  | [.list xs] => (intsOf xs).map fun is => .list ((PySem.W.sortI is).map .int)
  | _ => none
def dedupI : List Int → List Int
  | [] => []
  | x :: r => if x ∈ r then dedupI r else x :: dedupI r
def srsD : D → Option D
  | .list xs => if xs.length < 64 then (intsOf xs).map fun is => .list ((PySem.W.sortI (dedupI is)).map .int) else none
  | _ => none
def bltD : Bi → List D → Option D
  | .abs => absD
  | .max => maxD
  | .min => minD
  | .int => intD
  | .len => lenD
  | .str => strD
  | .list => listD
  | .tuple => tupleD
  | .divmod => divmodD
  | .sum => sumD
  | .all => allD
  | .repr => reprD
  | .sorted => sortedD
  | .any => anyD
def isiT (d : D) : String := match d with | .none => "NoneType" | .bool _ => "bool" | .int _ => "int" | .str _ => "str" | .list _ => "list" | .tuple _ => "tuple" | .dict _ => "dict"
def isiD (d : D) (c : String) : Option Bool := kitB (isiT d) c
def joinD : D → List D → Option D
  | .str a, [.list xs] => (strsOf xs).bind fun ys => if (ys.map (·.length)).sum + ys.length * a.length ≤ lim then some (.str (Txt.join a ys)) else none
  | _, _ => none
def zfillD : D → List D → Option D
  | .str a, [.int i] => if PadOk i = true then some (.str (Txt.zfill a i)) else none
  | _, _ => none
/-- the first place of an equal item -/
def indexD : D → List D → Option D
  | .list xs, [d] => if (SeqAt.shaped (.list xs) && SeqAt.shaped d) = true then (xs.findIdx? fun z => PyData.eqv z d).map fun j => .int (j : Nat) else none
  | _, _ => none
def mthD : Mi → D → List D → Option D
  | .join => joinD
  | .zfill => zfillD
  | .index => indexD
def recv : Mi → D → Bool
  | .join, .str _ => true
  | .zfill, .str _ => true
  | .index, .list _ => true
  | _, _ => false
def rngL (lo hi : Int) : List D := (List.range (hi - lo).toNat).map fun (k : Nat) => PyData.int (lo + k)
/-- list(range(a, b)) -/
def lrD : D → D → Option D
  | .int a, .int b => if (-(2 ^ 62) ≤ a ∧ a < 2 ^ 62) ∧ (-(2 ^ 62) ≤ b ∧ b < 2 ^ 62) ∧ (b - a).toNat ≤ lim then some (.list (rngL a b)) else none
  | _, _ => none
def enumL : List D → Nat → List D
  | [], _ => []
  | x :: xs, i => .tuple [.int (i : Nat), x] :: enumL xs (i + 1)
def zipL : List D → List D → List D
  | x :: xs, y :: ys => .tuple [x, y] :: zipL xs ys
  | _, _ => []
def itemsD (kind : Nat) (ds : List D) : Option (List D) :=
  match kind, ds with
  | 0, [.list xs] => some xs
  | 4, [.tuple xs] => some xs
  | 5, [.str z] => some (z.cps.toList.map oneS)
  | 1, [.int n] => some (rngL 0 n)
  | 1, [.int a, .int b] => some (rngL a b)
  | 2, [.list xs] => some (enumL xs 0)
  | 6, [.tuple xs] => some (enumL xs 0)
  | 3, [.list xs, .list ys] => some (zipL xs ys)
  | 7, [.tuple xs, .tuple ys] => some (zipL xs ys)
  | 8, [.list xs, .tuple ys] => some (zipL xs ys)
  | 9, [.list xs] => some xs
  | 9, [.tuple xs] => some xs
  | 9, [.str z] => some (z.cps.toList.map oneS)
  | 10, [.list xs] => some (enumL xs 0)
  | 10, [.tuple xs] => some (enumL xs 0)
  | 11, [.list xs, .list ys] => some (zipL xs ys)
  | 12, [.list xs] => some xs.reverse
  | _, _ => none
def set0 (b0 : Bool) (i : Nat) (d : D) (ρ : Ro) : Option Ro := if (b0 && i == 0) = true then none else some (ρ.set i (some (d, false)))
def setMany (b0 : Bool) : List Nat → List D → Ro → Option Ro
  | [], [], ρ => some ρ
  | i :: is, d :: ds, ρ => (set0 b0 i d ρ).bind (setMany b0 is ds)
  | _, _, _ => none
def setTg (b0 : Bool) (tg : List Nat) (one : Bool) (d : D) (ρ : Ro) : Option Ro :=
  if one = true then (match tg with | [i] => set0 b0 i d ρ | _ => none)
  else match d with
    | .tuple xs => setMany b0 tg xs ρ
    | _ => none
def wipeR (ρ : Ro) : List Nat → Ro
  | [] => ρ
  | v :: vs => (wipeR ρ vs).set v none
/-- ρ' with the places of vs as in ρ -/
def backR (ρ ρ' : Ro) : List Nat → Ro
  | [] => ρ'
  | v :: vs => match ρ[v]? with
    | some x => (backR ρ ρ' vs).set v x
    | none => backR ρ ρ' vs
def free (ρ : Ro) (vs : List Nat) : Bool := vs.all fun i => match ρ[i]? with | some (some (_, true)) => false | _ => true
def noEr {α : Type} (r : Rs α) : Rs α := match r with | .er _ _ _ => .bad | r => r
def compL (st : D → Ro → Option Ro) (own : List Nat) (cnd : Ro → Rs Bool) (elt : Ro → Rs D) : List D → Ro → List D → Rs (List D)
  | [], ρ, acc => .ok acc ρ
  | x :: xs, ρ, acc => match st x ρ with
    | none => .bad
    | some ρ1 => (noEr (cnd ρ1)).bind fun b ρ2 =>
      if b = true then (noEr (elt ρ2)).bind fun d ρ3 => if acc.length < lim then compL st own cnd elt xs (wipeR ρ3 own) (acc ++ [d]) else .bad
      else compL st own cnd elt xs (wipeR ρ2 own) acc
def truR (x : D) (ρ : Ro) : Rs Bool := ofO (truD x) ρ
def permD (perm : List Nat) (ds : List D) : Option (List D) := perm.mapM fun i => ds[i]?
def callR (r : CR) (ρ : Ro) : Rs D := match r with
  | .ok d none => .ok d ρ
  | .ow ds none => .ok (.list ds) ρ
  | .er c f none => .er c f ρ
  | _ => .bad
def cioR (i : Nat) (r : CR) (ρ : Ro) : Rs D := match r with
  | .ok d (some e) => .ok d (ρ.set i (some (e, true)))
  | .ow ds (some e) => .ok (.list ds) (ρ.set i (some (e, true)))
  | .er c f (some e) => .er c f (ρ.set i (some (e, true)))
  | _ => .bad
def callO (r : CR) (ρ : Ro) : Rs (List D) := match r with
  | .ow ds none => .ok ds ρ
  | .er c f none => .er c f ρ
  | _ => .bad
def cioO (i : Nat) (r : CR) (ρ : Ro) : Rs (List D) := match r with
  | .ow ds (some e) => .ok ds (ρ.set i (some (e, true)))
  | .er c f (some e) => .er c f (ρ.set i (some (e, true)))
  | _ => .bad
section
variable (cal : Cal) (b0 : Bool)
mutual
def ev : CE → Ro → Rs D
  | .var i, ρ => match ρ[i]? with
    | some (some (d, false)) => .ok d ρ
    | some (some (d, true)) => if (b0 && i == 0) = true then .bad else .ok d (ρ.set i (some (d, false)))
    | _ => .bad
  | .cst d, ρ => .ok d ρ
  | .gcn _ d, ρ => .ok d ρ
  | .bin op a b, ρ => (ev a ρ).bind fun x ρ1 => (ev b ρ1).bind fun y ρ2 => ofO (opD op x y) ρ2
  | .neg a, ρ => (ev a ρ).bind fun x ρ1 => ofO (negD x) ρ1
  | .not a, ρ => (ev a ρ).bind fun x ρ1 => match x with | .bool b => .ok (.bool (!b)) ρ1 | _ => .bad
  | .cmp op a b, ρ => (ev a ρ).bind fun x ρ1 => (ev b ρ1).bind fun y ρ2 => ofO ((cmpD op x y).map .bool) ρ2
  | .chn o1 o2 a b c, ρ => (ev a ρ).bind fun x ρ1 => (ev b ρ1).bind fun y ρ2 => match cmpD o1 x y with
    | some true => (ev c ρ2).bind fun z ρ3 => ofO ((cmpD o2 y z).map .bool) ρ3
    | some false => .ok (.bool false) ρ2
    | none => .bad
  | .and a b, ρ => (ev a ρ).bind fun x ρ1 => match x with | .bool true => ev b ρ1 | .bool false => .ok (.bool false) ρ1 | _ => .bad
  | .or a b, ρ => (ev a ρ).bind fun x ρ1 => match x with | .bool true => .ok (.bool true) ρ1 | .bool false => ev b ρ1 | _ => .bad
  | .ite c a b, ρ => (ev c ρ).bind fun x ρ1 => (truR x ρ1).bind fun k ρ2 => if k = true then ev a ρ2 else ev b ρ2
  | .tup es, ρ => (evA es ρ).bind fun ds ρ1 => if ds.length ≤ lim then .ok (.tuple ds) ρ1 else .bad
  | .lst es, ρ => (evA es ρ).bind fun ds ρ1 => if ds.length ≤ lim then .ok (.list ds) ρ1 else .bad
  | .idx a b, ρ => (ev a ρ).bind fun x ρ1 => (ev b ρ1).bind fun y ρ2 => ofO (idxD x y) ρ2
  | .idv i b, ρ => match ρ[i]? with
    | some (some (_, true)) => (ev b ρ).bind fun y ρ1 => match ρ1[i]? with | some (some (d, true)) => ofO (idxD d y) ρ1 | _ => .bad
    | some (some (d, false)) => (ev b ρ).bind fun y ρ1 => ofO (idxD d y) ρ1
    | _ => .bad
  | .slc a lo hi, ρ => (ev a ρ).bind fun x ρ1 => (evO lo ρ1).bind fun l ρ2 => (evO hi ρ2).bind fun h ρ3 => ofO (slcD x l h) ρ3
  | .rev a, ρ => (ev a ρ).bind fun x ρ1 => ofO (revD x) ρ1
  | .comp kind its tg one own cnd elt, ρ => (evA its ρ).bind fun ds ρ1 => match itemsD kind ds with
    | none => .bad
    | some xs => if (free ρ1 own && !(b0 && own.contains 0) && tg.all own.contains) = true then
        (compL (setTg b0 tg one) own (evC cnd) (ev elt) xs (wipeR ρ1 own) []).bind fun acc ρ2 => .ok (.list acc) (backR ρ1 ρ2 own)
      else .bad
  | .call f perm args, ρ => (evA args ρ).bind fun ds ρ1 => match permD perm ds with
    | some es => callR (cal f es) ρ1
    | none => .bad
  | .cio f i args, ρ => match ρ[i]? with
    | some (some (_, true)) => (evA args ρ).bind fun ds ρ1 => match ρ1[i]? with
      | some (some (.list es, true)) => cioR i (cal f (.list es :: ds)) ρ1
      | _ => .bad
    | _ => .bad
  | .blt f args, ρ => (evA args ρ).bind fun ds ρ1 => ofO (bltD f ds) ρ1
  | .dct, ρ => .ok (.dict []) ρ
  | .lr1 a, ρ => (ev a ρ).bind fun x ρ1 => ofO (lrD (.int 0) x) ρ1
  | .lr2 a b, ρ => (ev a ρ).bind fun x ρ1 => (ev b ρ1).bind fun y ρ2 => ofO (lrD x y) ρ2
  | .gcd a b, ρ => (ev a ρ).bind fun x ρ1 => (ev b ρ1).bind fun y ρ2 => ofO (gcdD x y) ρ2
  | .srs a, ρ => (ev a ρ).bind fun x ρ1 => ofO (srsD x) ρ1
  | .mnd a b, ρ => (ev a ρ).bind fun x ρ1 => (ev b ρ1).bind fun y ρ2 => ofO (mndD x y) ρ2
  | .rpo i, ρ => match ρ[i]? with
    | some (some (d, _)) => ofO (bltD .repr [d]) ρ
    | _ => .bad
  | .neq i, ρ => match ρ[i]? with
    | some (some (d, _)) => if SeqAt.shaped d = true then .ok (.bool (!PyData.eqv d (.list []))) ρ else .bad
    | _ => .bad
  | .isi a c, ρ => (ev a ρ).bind fun x ρ1 => ofO ((isiD x c).map .bool) ρ1
  | .mth m o args, ρ => (ev o ρ).bind fun x ρ1 => if recv m x = true then (evA args ρ1).bind fun ds ρ2 => ofO (mthD m x ds) ρ2 else .bad
def evA : List CE → Ro → Rs (List D)
  | [], ρ => .ok [] ρ
  | e :: es, ρ => (ev e ρ).bind fun d ρ1 => (evA es ρ1).bind fun ds ρ2 => .ok (d :: ds) ρ2
def evO : Option CE → Ro → Rs (Option Int)
  | none, ρ => .ok none ρ
  | some e, ρ => (ev e ρ).bind fun d ρ1 => match d with | .int i => .ok (some i) ρ1 | _ => .bad
def evC : Option CE → Ro → Rs Bool
  | none, ρ => .ok true ρ
  | some e, ρ => (ev e ρ).bind fun d ρ1 => truR d ρ1
end
/-- a test -/
def evT (c : CE) (ρ : Ro) : Rs Bool := (ev cal b0 c ρ).bind truR
end
end Ev

set_option Elab.async false
set_option linter.all false
set_option maxRecDepth 100000
set_option maxHeartbeats 2000000
namespace Ev
open PySem PySem.Spec PyProof.Rows L2

structure Pm where
  K : PySem.W.Frag
  mg : Str → Option Value
  Z : Addr → Prop
  H0 : Hp
  io : Option Addr
  cal : Cal
  W : WX
def Pm.b0 (P : Pm) : Bool := P.io.isSome
abbrev Pm.Fm (P : Pm) (ρ : Ro) (G : Hp) (σ : L2.St) (H : Hp) : Prop := Ev.Fm P.K P.Z P.H0 P.io ρ G σ H
/-- the error that a raise leaves -/
def ErrV (P : Pm) (c : Str) (f : Option (Str × D)) (cls : Value) (dx : Option Addr) (G : Hp) : Prop := ∃ C, P.mg c = some (.ref C) ∧ cls = .ref C ∧
  match f with
  | none => dx = none
  | some (n, d) => ∃ dd v, dx = some dd ∧ G dd = some (.xd [(n, v)]) ∧ Rp P.K G v d
def Out {α β : Type} (P : Pm) (R : Hp → β → α → Prop) (G : Hp) (σ : L2.St) (r : Rs α) (Q : β → Hp → Prop) : Prop :=
  match r with
  | .ok a ρ => ∀ b G' H', Same G G' → P.Fm ρ G' σ H' → R G' b a → Q b H'
  | .er c f ρ => ∀ cls dx G' H', Same G G' → P.Fm ρ G' σ H' → ErrV P c f cls dx G' → P.W cls dx σ H'
  | .bad => False
section
variable {P : Pm} {α β γ δ : Type} {G G1 H : Hp} {σ : L2.St} {ρ : Ro}
theorem Out.mono {R : Hp → β → α → Prop} {r : Rs α} {Q : β → Hp → Prop} (s : Same G G1) (h : Out P R G σ r Q) : Out P R G1 σ r Q := by
  cases r with
  | ok a ρ => exact fun b G' H' s' f r => h b G' H' (Same.trans s s') f r
  | er c f ρ => exact fun cls dx G' H' s' fm e => h cls dx G' H' (Same.trans s s') fm e
  | bad => exact h
theorem Out.bind {R1 : Hp → β → α → Prop} {R2 : Hp → δ → γ → Prop} {r : Rs α} {f : α → Ro → Rs γ} {Q : δ → Hp → Prop} {Q1 : β → Hp → Prop} (h : Out P R2 G σ (r.bind f) Q)
    (k : ∀ a ρ1 b G1 H1, Same G G1 → P.Fm ρ1 G1 σ H1 → R1 G1 b a → Out P R2 G1 σ (f a ρ1) Q → Q1 b H1) : Out P R1 G σ r Q1 := by
  cases r with
  | ok a ρ => exact fun b G' H' s fm r => k a ρ b G' H' s fm r (Out.mono s h)
  | er c f' ρ => exact h
  | bad => exact h
theorem Out.imp {R : Hp → β → α → Prop} {r : Rs α} {Q Q' : β → Hp → Prop} (h : Out P R G σ r Q) (k : ∀ b H', Q b H' → Q' b H') : Out P R G σ r Q' := by
  cases r with
  | ok a ρ => exact fun b G' H' s fm r => k _ _ (h b G' H' s fm r)
  | er c f' ρ => exact h
  | bad => exact h
theorem Out.ret {R : Hp → β → α → Prop} {a : α} {b : β} {Q : β → Hp → Prop} (h : Out P R G σ (.ok a ρ) Q) (fm : P.Fm ρ G σ H) (r : R G b a) : Q b H := h b G H (Same.refl G) fm r
theorem Out.give {d : D} {Q : VK} (h : Out P (fun G v d => Rp P.K G v d) G σ (.ok d ρ) Q) (fm : P.Fm ρ G σ H) : Giv P.K G H d Q := fun v G' H' e r => h v G' H' e.g (fm.ext e) r
theorem Out.giveO {o : Option D} {Q : VK} (h : Out P (fun G v d => Rp P.K G v d) G σ (ofO o ρ) Q) (fm : P.Fm ρ G σ H) : ∃ d, o = some d ∧ Giv P.K G H d Q := by
  cases o with
  | none => exact h.elim
  | some d => exact ⟨d, rfl, Out.give h fm⟩
end
/-- the reading of an expression -/
def T (P : Pm) (c : CE) : TE := fun σ H Q => ∃ ρ G, P.Fm ρ G σ H ∧ Out P (fun G v d => Rp P.K G v d) G σ (ev P.cal P.b0 c ρ) Q
def TT' (P : Pm) (c : CE) : TT := fun σ H Q => ∃ ρ G, P.Fm ρ G σ H ∧ Out P (fun _ b d => b = d) G σ (evT P.cal P.b0 c ρ) Q
def TAs (P : Pm) (cs : List CE) : TA := fun σ H Q => ∃ ρ G, P.Fm ρ G σ H ∧ Out P (fun G vs ds => RpAll P.K G vs ds) G σ (evA P.cal P.b0 cs ρ) Q
def TOp (P : Pm) (c : Option CE) : TO := fun σ H Q => ∃ ρ G, P.Fm ρ G σ H ∧ Out P (fun _ b d => b = d) G σ (evO P.cal P.b0 c ρ) Q

theorem PEw {X : Cx} {e : Expr} {t t' : TE} (h : PE X e t) (k : ∀ σ H Q, t' σ H Q → t σ H Q) : PE X e t' := ⟨fun pins s σ H Q I q => h.run pins s σ H Q I (k _ _ _ q)⟩
theorem PTw {X : Cx} {e : Expr} {t t' : TT} (h : PT X e t) (k : ∀ σ H Q, t' σ H Q → t σ H Q) : PT X e t' := ⟨fun pins s σ H Q I q => h.run pins s σ H Q I (k _ _ _ q)⟩
theorem PWw {X : Cx} {e : Expr} {t t' : TT} (h : PW X e t) (k : ∀ σ H Q, t' σ H Q → t σ H Q) : PW X e t' := ⟨fun wh pins s σ H Q I q => h.run wh pins s σ H Q I (k _ _ _ q)⟩
theorem PAw {X : Cx} {e : List Expr} {t t' : TA} (h : PA X e t) (k : ∀ σ H Q, t' σ H Q → t σ H Q) : PA X e t' := ⟨fun pos pins s σ H Q I q => h.run pos pins s σ H Q I (k _ _ _ q)⟩
theorem PSw {X : Cx} {e : Stmt} {t t' : TS} (h : PS X e t) (k : ∀ D σ H, t' D σ H → t D σ H) : PS X e t' := ⟨fun pins s σ H Q I q => h.run pins s σ H Q I (k _ _ _ q)⟩
theorem PSsw {X : Cx} {e : List Stmt} {t t' : TS} (h : PSs X e t) (k : ∀ D σ H, t' D σ H → t D σ H) : PSs X e t' := ⟨fun pins s σ H Q I q => h.run pins s σ H Q I (k _ _ _ q)⟩

section
variable {P : Pm} {X : Cx} {a b c e : Expr} {ca cb cc ce : CE} {pos : Pos} {op o1 o2 : CmpOp}
theorem t_var (i : Nat) {x : Str} (hN : X.N[i]? = some x) (hv : Vis X.env.scope x) (hd : (x == ("__debug__" : Str)) = false) (hcd : (x == ("__classdict__" : Str)) = false) : PE X (.Name x pos) (T P (.var i)) := by
  refine PEw (pe_var hN hv hd hcd) fun σ H Q ⟨ρ, G, fm, h⟩ => ?_
  simp only [ev] at h
  cases hr : ρ[i]? with
  | none => rw [hr] at h; exact h.elim
  | some o =>
    cases o with
    | none => rw [hr] at h; exact h.elim
    | some p =>
      obtain ⟨d, w⟩ := p
      rw [hr] at h
      cases w with
      | false =>
        obtain ⟨v, h1, h2⟩ := fm.un i d hr
        exact ⟨v, h1, h.ret fm h2⟩
      | true =>
        simp only at h
        split at h
        · exact h.elim
        · obtain ⟨G', a, sg, h1, h2, h3⟩ := fm.freeze hr
          exact ⟨_, h1, h _ G' H sg h3 h2⟩
theorem cst_rp {K : PySem.W.Frag} {G : Hp} : ∀ {v : V} {d : D}, (match v, d with | .non, .none => True | .bl a, .bool b => a = b | .int a, .int b => a = b | .str a, .str b => a = b | _, _ => False) → Rp K G v d
  | .non, .none, _ => .non
  | .bl a, .bool b, h => by cases (show a = b from h); exact .bl _
  | .int a, .int b, h => by cases (show a = b from h); exact .int _
  | .str a, .str b, h => by cases (show a = b from h); exact .str _
theorem t_cst {v : V} {d : D} (h : PE X e (tC v)) (r : ∀ G, Rp P.K G v d) : PE X e (T P (.cst d)) := PEw h fun σ H Q ⟨ρ, G, fm, h⟩ => h.ret fm (r G)
theorem t_dct : PE X (.Dict [] [] pos) (T P .dct) := PEw pe_dnewK fun σ H Q ⟨ρ, G, fm, h⟩ p hp => by
  have h' : Out P (fun G v d => Rp P.K G v d) G σ (.ok (.dict []) ρ) Q := by simpa only [ev] using h
  exact Out.give h' fm _ _ _ (Ext.new fm.sub hp) (.dct upd_same .nil)
theorem t_gcn {v : V} {d : D} {x : Str} (h : PE X e (tC v)) (r : ∀ G, Rp P.K G v d) : PE X e (T P (.gcn x d)) := PEw h fun σ H Q ⟨ρ, G, fm, h⟩ => h.ret fm (r G)
theorem t_bin {op : Operator} (hK : X.K = P.K) (ha : PE X a (T P ca)) (hb : PE X b (T P cb)) : PE X (.BinOp a op b pos) (T P (.bin op ca cb)) := by
  refine PEw (pe_op bin_all ha hb) fun σ H Q ⟨ρ, G, fm, h⟩ => ⟨ρ, G, fm, ?_⟩
  simp only [ev] at h
  refine Out.bind h fun x ρ1 v G1 H1 s1 fm1 r1 h1 => ⟨ρ1, G1, fm1, ?_⟩
  refine Out.bind h1 fun y ρ2 w G2 H2 s2 fm2 r2 h2 => ?_
  obtain ⟨d, e1, g⟩ := h2.giveO fm2
  rw [hK]
  exact ⟨G2, x, y, d, fm2.sub, r1.mono s2, r2, e1, g⟩
theorem t_neg (ha : PE X a (T P ca)) : PE X (.UnaryOp .USub a pos) (T P (.neg ca)) := by
  refine PEw (pe_un un_neg ha) fun σ H Q ⟨ρ, G, fm, h⟩ => ⟨ρ, G, fm, ?_⟩
  simp only [ev] at h
  refine Out.bind h fun x ρ1 v G1 H1 s1 fm1 r1 h1 => ?_
  obtain ⟨d, e1, g⟩ := h1.giveO fm1
  cases r1 with
  | int i => cases e1; exact ⟨i, rfl, g.int fm1.sub⟩
  | _ => cases e1
theorem t_not (ha : PE X a (T P ca)) : PE X (.UnaryOp .Not a pos) (T P (.not ca)) := by
  refine PEw (pe_not ha) fun σ H Q ⟨ρ, G, fm, h⟩ => ⟨ρ, G, fm, ?_⟩
  simp only [ev] at h
  refine Out.bind h fun x ρ1 v G1 H1 s1 fm1 r1 h1 => ?_
  cases r1 with
  | bl k => exact ⟨k, rfl, h1.ret fm1 (.bl _)⟩
  | _ => exact h1.elim
theorem t_cmp (hK : X.K = P.K) (hu : X.A.units + 100 < cLine) (hm : behindInMarks op b = false) (ha : PE X a (T P ca)) (hb : PE X b (T P cb)) : PE X (.Compare a [op] [b] pos) (T P (.cmp op ca cb)) := by
  refine PEw (pe_cmpR (cmp_all hu) ha hb hm) fun σ H Q ⟨ρ, G, fm, h⟩ => ⟨ρ, G, fm, ?_⟩
  simp only [ev] at h
  refine Out.bind h fun x ρ1 v G1 H1 s1 fm1 r1 h1 => ⟨ρ1, G1, fm1, ?_⟩
  refine Out.bind h1 fun y ρ2 w G2 H2 s2 fm2 r2 h2 => ?_
  obtain ⟨d, e1, g⟩ := h2.giveO fm2
  rw [hK]
  cases hc : cmpD op x y with
  | none => rw [hc] at e1; cases e1
  | some k =>
    rw [hc] at e1
    cases e1
    exact ⟨G2, x, y, k, fm2.sub, r1.mono s2, r2, hc, g⟩
theorem t_chn (hK : X.K = P.K) (hu : X.A.units + 100 < cLine) (hm : lastMarks [o1, o2] [b, c] = false) (ha : PE X a (T P ca)) (hb : PE X b (T P cb)) (hc : PE X c (T P cc)) : PE X (.Compare a [o1, o2] [b, c] pos) (T P (.chn o1 o2 ca cb cc)) := by
  refine PEw (pe_chain (cmp_all hu) (cmp_all hu) ha hb hc hm) fun σ H Q ⟨ρ, G, fm, h⟩ => ⟨ρ, G, fm, ?_⟩
  simp only [ev] at h
  refine Out.bind h fun x ρ1 v G1 H1 s1 fm1 r1 h1 => ⟨ρ1, G1, fm1, ?_⟩
  refine Out.bind h1 fun y ρ2 w G2 H2 s2 fm2 r2 h2 => ?_
  rw [hK]
  cases hc1 : cmpD o1 x y with
  | none => rw [hc1] at h2; exact h2.elim
  | some k =>
    rw [hc1] at h2
    refine ⟨G2, x, y, k, fm2.sub, r1.mono s2, r2, hc1, fun z G3 H3 e3 r3 => ?_⟩
    cases r3
    refine ⟨k, rfl, ?_⟩
    have fm3 := fm2.ext e3
    cases k with
    | false => exact iteF ((Out.mono e3.g h2).ret fm3 (.bl _))
    | true =>
      refine iteT ⟨ρ2, G3, fm3, ?_⟩
      refine Out.bind (Out.mono e3.g h2) fun z ρ4 w4 G4 H4 s4 fm4 r4 h4 => ?_
      obtain ⟨d, e1, g⟩ := h4.giveO fm4
      cases hc2 : cmpD o2 y z with
      | none => rw [hc2] at e1; cases e1
      | some k2 =>
        rw [hc2] at e1
        cases e1
        exact ⟨G4, y, z, k2, fm4.sub, (r2.mono e3.g).mono s4, r4, hc2, g⟩
theorem t_and {rest : List Expr} (ha : PE X a (T P ca)) (hb : PE X (.BoolOp .And (b :: rest) pos) (T P cb)) : PE X (.BoolOp .And (a :: b :: rest) pos) (T P (.and ca cb)) := by
  refine PEw (pe_and ha hb) fun σ H Q ⟨ρ, G, fm, h⟩ => ⟨ρ, G, fm, ?_⟩
  simp only [ev] at h
  refine Out.bind h fun x ρ1 v G1 H1 s1 fm1 r1 h1 => ?_
  cases r1 with
  | bl k =>
    refine ⟨k, rfl, ?_⟩
    cases k with
    | true => exact iteT ⟨ρ1, G1, fm1, h1⟩
    | false => exact iteF (h1.ret fm1 (.bl _))
  | _ => exact h1.elim
theorem t_or {rest : List Expr} (ha : PE X a (T P ca)) (hb : PE X (.BoolOp .Or (b :: rest) pos) (T P cb)) : PE X (.BoolOp .Or (a :: b :: rest) pos) (T P (.or ca cb)) := by
  refine PEw (pe_or ha hb) fun σ H Q ⟨ρ, G, fm, h⟩ => ⟨ρ, G, fm, ?_⟩
  simp only [ev] at h
  refine Out.bind h fun x ρ1 v G1 H1 s1 fm1 r1 h1 => ?_
  cases r1 with
  | bl k =>
    refine ⟨k, rfl, ?_⟩
    cases k with
    | true => exact iteT (h1.ret fm1 (.bl _))
    | false => exact iteF ⟨ρ1, G1, fm1, h1⟩
  | _ => exact h1.elim
theorem t_one {o : BoolOp} (ha : PE X a (T P ca)) : PE X (.BoolOp o [a] pos) (T P ca) := pe_one ha
/-! tests -/
theorem isEmpty_rp {K : PySem.W.Frag} {G : Hp} {xs : List V} {ds : List D} (h : RpAll K G xs ds) : (!ds.isEmpty) = !xs.isEmpty := by
  cases h <;> rfl
theorem tt_of (hK : X.K = P.K) (h : PE X a (T P ca)) (he : ∀ whole, isTrue a X.env whole = (do let v ← whole; standAt a.pos; holding [v] (truthy v))) : PT X a (TT' P ca) := by
  refine PTw (pt_truth h he) fun σ H Q ⟨ρ, G, fm, h⟩ => ⟨ρ, G, fm, ?_⟩
  refine Out.bind h fun x ρ1 v G1 H1 s1 fm1 r1 h1 => ?_
  cases r1 with
  | bl k => exact ⟨k, rfl, h1.ret fm1 rfl⟩
  | non => exact ⟨false, rfl, h1.ret fm1 rfl⟩
  | @lst a xs ds q1 q2 => exact ⟨!ds.isEmpty, .inl ⟨xs, hK ▸ (Same.ls fm1.sub q1).seq, by rw [isEmpty_rp q2]⟩, h1.ret fm1 rfl⟩
  | @tup a xs ds q1 q2 => exact ⟨!ds.isEmpty, .inr (.inl ⟨xs, hK ▸ Same.seqT fm1.sub q1, by rw [isEmpty_rp q2]⟩), h1.ret fm1 rfl⟩
  | _ => exact h1.elim
theorem Rs.assoc {α β γ : Type} (r : Rs α) (f : α → Ro → Rs β) (g : β → Ro → Rs γ) : (r.bind f).bind g = r.bind fun a ρ => (f a ρ).bind g := by cases r <;> rfl
theorem tt_cmp (hK : X.K = P.K) (hu : X.A.units + 100 < cLine) (hm : behindInMarks op b = false) (ha : PE X a (T P ca)) (hb : PE X b (T P cb)) : PT X (.Compare a [op] [b] pos) (TT' P (.cmp op ca cb)) := by
  refine PTw (pt_cmpR (cmp_all hu) ha hb hm) fun σ H Q ⟨ρ, G, fm, h⟩ => ⟨ρ, G, fm, ?_⟩
  simp only [evT, ev, Rs.assoc] at h
  refine Out.bind h fun x ρ1 v G1 H1 s1 fm1 r1 h1 => ⟨ρ1, G1, fm1, ?_⟩
  refine Out.bind h1 fun y ρ2 w G2 H2 s2 fm2 r2 h2 => ?_
  rw [hK]
  cases hc : cmpD op x y with
  | none => rw [hc] at h2; exact h2.elim
  | some k =>
    rw [hc] at h2
    refine ⟨G2, x, y, k, fm2.sub, r1.mono s2, r2, hc, fun z G3 H3 e3 r3 => ?_⟩
    cases r3
    exact ⟨k, rfl, (Out.mono e3.g h2).ret (fm2.ext e3) rfl⟩
theorem tt_chn (hK : X.K = P.K) (hu : X.A.units + 100 < cLine) (hm : lastMarks [o1, o2] [b, c] = false) (ha : PE X a (T P ca)) (hb : PE X b (T P cb)) (hc : PE X c (T P cc)) : PT X (.Compare a [o1, o2] [b, c] pos) (TT' P (.chn o1 o2 ca cb cc)) := by
  refine PTw (pt_chain (cmp_all hu) (cmp_all hu) ha hb hc hm) fun σ H Q ⟨ρ, G, fm, h⟩ => ⟨ρ, G, fm, ?_⟩
  simp only [evT, ev, Rs.assoc] at h
  refine Out.bind h fun x ρ1 v G1 H1 s1 fm1 r1 h1 => ⟨ρ1, G1, fm1, ?_⟩
  refine Out.bind h1 fun y ρ2 w G2 H2 s2 fm2 r2 h2 => ?_
  rw [hK]
  cases hc1 : cmpD o1 x y with
  | none => rw [hc1] at h2; exact h2.elim
  | some k =>
    rw [hc1] at h2
    refine ⟨G2, x, y, k, fm2.sub, r1.mono s2, r2, hc1, fun z G3 H3 e3 r3 => ?_⟩
    cases r3
    refine ⟨k, rfl, ?_⟩
    have fm3 := fm2.ext e3
    cases k with
    | false => exact iteF ⟨false, rfl, (Out.mono e3.g h2).ret fm3 rfl⟩
    | true =>
      simp only [Rs.assoc] at h2
      refine iteT ⟨ρ2, G3, fm3, ?_⟩
      refine Out.bind (Out.mono e3.g h2) fun z ρ4 w4 G4 H4 s4 fm4 r4 h4 => ?_
      cases hc2 : cmpD o2 y z with
      | none => rw [hc2] at h4; exact h4.elim
      | some k2 =>
        rw [hc2] at h4
        refine ⟨G4, y, z, k2, fm4.sub, (r2.mono e3.g).mono s4, r4, hc2, fun z G5 H5 e5 r5 => ?_⟩
        cases r5
        exact ⟨k2, rfl, (Out.mono e5.g h4).ret (fm4.ext e5) rfl⟩
theorem tt_not (ha : PT X a (TT' P ca)) : PT X (.UnaryOp .Not a pos) (TT' P (.not ca)) := by
  refine PTw (pt_not ha) fun σ H Q ⟨ρ, G, fm, h⟩ => ⟨ρ, G, fm, ?_⟩
  simp only [evT, ev, Rs.assoc] at h ⊢
  cases hq : ev P.cal P.b0 ca ρ with
  | bad => rw [hq] at h; exact h
  | er c f ρ' => rw [hq] at h; exact h
  | ok x ρ1 =>
    rw [hq] at h
    cases x with
    | bool k =>
      intro b G' H' s fm' e
      have e' : b = k := e
      subst e'
      exact h (!b) G' H' s fm' rfl
    | _ => exact h.elim
theorem tw_one {o : BoolOp} (ha : PT X a (TT' P ca)) : PW X (.BoolOp o [a] pos) (TT' P ca) := by
  cases o with
  | And => exact pw_and1 ha
  | Or => exact pw_or1 ha
theorem tw_and {rest : List Expr} (ha : PT X a (TT' P ca)) (hb : PW X (.BoolOp .And (b :: rest) pos) (TT' P cb)) : PW X (.BoolOp .And (a :: b :: rest) pos) (TT' P (.and ca cb)) := by
  refine PWw (pw_and ha hb) fun σ H Q ⟨ρ, G, fm, h⟩ => ⟨ρ, G, fm, ?_⟩
  simp only [evT, ev, Rs.assoc] at h ⊢
  cases hq : ev P.cal P.b0 ca ρ with
  | bad => rw [hq] at h; exact h
  | er c f ρ' => rw [hq] at h; exact h
  | ok x ρ1 =>
    rw [hq] at h
    cases x with
    | bool k =>
      intro b G' H' s fm' e
      have e' : b = k := e
      subst e'
      cases b with
      | true => exact iteT ⟨ρ1, G', fm', Out.mono s h⟩
      | false => exact iteF (h false G' H' s fm' rfl)
    | _ => exact h.elim
theorem tw_or {rest : List Expr} (ha : PT X a (TT' P ca)) (hb : PW X (.BoolOp .Or (b :: rest) pos) (TT' P cb)) : PW X (.BoolOp .Or (a :: b :: rest) pos) (TT' P (.or ca cb)) := by
  refine PWw (pw_or ha hb) fun σ H Q ⟨ρ, G, fm, h⟩ => ⟨ρ, G, fm, ?_⟩
  simp only [evT, ev, Rs.assoc] at h ⊢
  cases hq : ev P.cal P.b0 ca ρ with
  | bad => rw [hq] at h; exact h
  | er c f ρ' => rw [hq] at h; exact h
  | ok x ρ1 =>
    rw [hq] at h
    cases x with
    | bool k =>
      intro b G' H' s fm' e
      have e' : b = k := e
      subst e'
      cases b with
      | true => exact iteT (h true G' H' s fm' rfl)
      | false => exact iteF ⟨ρ1, G', fm', Out.mono s h⟩
    | _ => exact h.elim
theorem t_ite (hc : PT X c (TT' P cc)) (ha : PE X a (T P ca)) (hb : PE X b (T P cb)) : PE X (.IfExp c a b pos) (T P (.ite cc ca cb)) := by
  refine PEw (pe_ifExp hc ha hb) fun σ H Q ⟨ρ, G, fm, h⟩ => ⟨ρ, G, fm, ?_⟩
  simp only [ev] at h
  rw [← Rs.assoc] at h
  refine Out.bind (r := evT P.cal P.b0 cc ρ) h fun x ρ1 v G1 H1 s1 fm1 r1 h1 => ?_
  have e' : v = x := r1
  subst e'
  cases v with
  | true => exact iteT ⟨ρ1, G1, fm1, h1⟩
  | false => exact iteF ⟨ρ1, G1, fm1, h1⟩
/-! argument lists, displays -/
theorem ta_nil : PA X [] (TAs P []) := PAw pa_nil fun σ H Q ⟨ρ, G, fm, h⟩ => h.ret fm .nil
theorem ta_cons {es : List Expr} {cs : List CE} (he : PE X e (T P ce)) (hs : PA X es (TAs P cs)) (hst : starEach (e :: es) X.env = (false, eval e X.env) :: starEach es X.env) : PA X (e :: es) (TAs P (ce :: cs)) := by
  refine PAw (pa_cons he hs hst) fun σ H Q ⟨ρ, G, fm, h⟩ => ⟨ρ, G, fm, ?_⟩
  simp only [evA] at h
  refine Out.bind h fun x ρ1 v G1 H1 s1 fm1 r1 h1 => ⟨ρ1, G1, fm1, ?_⟩
  refine Out.bind h1 fun xs ρ2 vs G2 H2 s2 fm2 r2 h2 => ?_
  exact h2.ret fm2 (.cons (r1.mono s2) r2)
theorem t_tup {es : List Expr} {cs : List CE} {x1 : Nat} (h : PA X es (TAs P cs)) : PE X (.Tuple es x1 pos) (T P (.tup cs)) := by
  refine PEw (pe_tup h) fun σ H Q ⟨ρ, G, fm, h⟩ => ⟨ρ, G, fm, ?_⟩
  simp only [ev] at h
  refine Out.bind h fun ds ρ1 vs G1 H1 s1 fm1 r1 h1 => ?_
  split at h1
  · rename_i hl
    exact ⟨by rw [r1.length]; exact lim_le hl, (h1.give fm1).tup fm1.sub r1⟩
  · exact h1.elim
theorem t_lst {es : List Expr} {cs : List CE} (h : PA X es (TAs P cs)) : PE X (.List es pos) (T P (.lst cs)) := by
  refine PEw (pe_lst h) fun σ H Q ⟨ρ, G, fm, h⟩ => ⟨ρ, G, fm, ?_⟩
  simp only [ev] at h
  refine Out.bind h fun ds ρ1 vs G1 H1 s1 fm1 r1 h1 => ?_
  split at h1
  · rename_i hl
    exact ⟨by rw [r1.length]; exact lim_le hl, (h1.give fm1).lst fm1.sub r1⟩
  · exact h1.elim
/-! o[i] -/
theorem atI_rp {K : PySem.W.Frag} {G : Hp} {xs : List V} {ds : List D} {i : Int} {d : D} (r : RpAll K G xs ds) (h : atI ds i = some d) : ∃ v, atI xs i = some v ∧ Rp K G v d := by
  unfold atI at h ⊢
  rw [r.length]
  cases hj : ixN ds.length i with
  | none => rw [hj] at h; cases h
  | some j =>
    rw [hj] at h
    exact r.get h
theorem ix_D {K : PySem.W.Frag} (hK : X.K = K) : IxR X (rD2 K idxD) := by
  subst hK
  rintro value slice pins s σ H x y v u Q I rx ry ⟨G, dx, dy, d, sg, hx, hy, e, g⟩ hs
  cases hy with
  | int i =>
    cases hx with
    | @lst a xs ds h1 h2 =>
      obtain ⟨w, h3, h4⟩ := atI_rp h2 (show atI ds i = some d from e)
      exact ix_list value slice pins s σ H _ _ _ _ Q I rx ry ⟨a, xs, i, w, rfl, rfl, (Same.ls sg h1).seq, h3, g.sc sg h4⟩ hs
    | @tup a xs ds h1 h2 =>
      obtain ⟨w, h3, h4⟩ := atI_rp h2 (show atI ds i = some d from e)
      exact ix_tup value slice pins s σ H _ _ _ _ Q I rx ry ⟨a, xs, i, w, rfl, rfl, Same.seqT sg h1, h3, g.sc sg h4⟩ hs
    | str z =>
      have e' : (if z.length ≤ lim then (atI z.cps.toList i).map fun c => PyData.str ⟨#[c]⟩ else none) = some d := e
      split at e'
      · rename_i hl
        cases ha : atI z.cps.toList i with
        | none => rw [ha] at e'; cases e'
        | some c =>
          rw [ha] at e'
          cases e'
          exact ix_str value slice pins s σ H _ _ _ _ Q I rx ry ⟨z, i, c, rfl, rfl, lim_le hl, ha, g.str sg⟩ hs
      · cases e'
    | _ => cases e
  | _ => cases hx <;> cases e
theorem t_idx (hK : X.K = P.K) (hp : PlainIx b) (ha : PE X a (T P ca)) (hb : PE X b (T P cb)) : PE X (.Subscript a b pos) (T P (.idx ca cb)) := by
  refine PEw (pe_ix (ix_D hK) ha hb hp) fun σ H Q ⟨ρ, G, fm, h⟩ => ⟨ρ, G, fm, ?_⟩
  simp only [ev] at h
  refine Out.bind h fun x ρ1 v G1 H1 s1 fm1 r1 h1 => ⟨ρ1, G1, fm1, ?_⟩
  refine Out.bind h1 fun y ρ2 w G2 H2 s2 fm2 r2 h2 => ?_
  obtain ⟨d, e1, g⟩ := h2.giveO fm2
  exact ⟨G2, x, y, d, fm2.sub, r1.mono s2, r2, e1, g⟩
/-- an item of a name's value -/
theorem t_idv (i : Nat) {x : Str} {p : Pos} (hK : X.K = P.K) (hN : X.N[i]? = some x) (hv : Vis X.env.scope x) (hd : (x == ("__debug__" : Str)) = false) (hcd : (x == ("__classdict__" : Str)) = false) (hp : PlainIx b) (hb : PE X b (T P cb)) :
    PE X (.Subscript (.Name x p) b pos) (T P (.idv i cb)) := by
  have ixo : IxR X (fun y z H Q => ∃ a xs k v, y = .ref a ∧ z = .int k ∧ H a = some (.lst xs) ∧ atI xs k = some v ∧ Q v H) := by
    rintro value slice pins s σ H x y v u Q I rx ry ⟨a, xs, k, w, rfl, rfl, ha, hw, q⟩ hs
    exact ix_list value slice pins s σ H _ _ _ _ Q I rx ry ⟨a, xs, k, w, rfl, rfl, .inl (.inl ha), hw, q⟩ hs
  refine PEw (pe_ix (ixo.or (ix_D hK)) (pe_var hN hv hd hcd) hb hp) fun σ H Q ⟨ρ, G, fm, h⟩ => ?_
  · simp only [ev] at h
    cases hr : ρ[i]? with
    | none => rw [hr] at h; exact h.elim
    | some o =>
    match o, hr, h with
    | none, hr, h => rw [hr] at h; exact h.elim
    | some (d0, false), hr, h =>
      rw [hr] at h
      obtain ⟨v0, q1, q2⟩ := fm.un i d0 hr
      refine ⟨_, q1, ρ, G, fm, Out.bind h fun y ρ1 w G1 H1 s1 fm1 r1 h1 => .inr ?_⟩
      obtain ⟨d, e1, g⟩ := Out.giveO h1 fm1
      exact ⟨G1, d0, y, d, fm1.sub, q2.mono s1, r1, e1, g⟩
    | some (d0, true), hr, h =>
      rw [hr] at h
      obtain ⟨a, o0, q1, _⟩ := fm.ow i d0 hr
      refine ⟨_, q1, ρ, G, fm, Out.bind h fun y ρ1 w G1 H1 s1 fm1 r1 h1 => .inl ?_⟩
      cases hr1 : ρ1[i]? with
      | none => rw [hr1] at h1; exact h1.elim
      | some o1 =>
      match o1, hr1, h1 with
      | none, hr1, h1 => rw [hr1] at h1; exact h1.elim
      | some (d1, false), hr1, h1 => rw [hr1] at h1; exact h1.elim
      | some (d1, true), hr1, h1 =>
        rw [hr1] at h1
        obtain ⟨a', o', p1, p3, _, _, p6⟩ := fm1.ow i d1 hr1
        rw [q1] at p1
        cases p1
        obtain ⟨d, e1, g⟩ := Out.giveO h1 fm1
        cases d1 with
        | list ds' =>
          obtain ⟨xs', rfl, p6⟩ := p6.lst
          cases r1 with
          | int k =>
            obtain ⟨v, p7, p8⟩ := atI_rp p6 (show atI ds' k = some d from e1)
            exact ⟨a, xs', k, v, rfl, rfl, p3, p7, g.sc fm1.sub p8⟩
          | _ => cases e1
        | dict ds' => cases r1 <;> cases e1
        | _ => exact p6.elim
/-- a name's list against [] -/
theorem neq_data (i : Nat) (hK : X.K = P.K) {σ : L2.St} {H G : Hp} {ρ : Ro} {d : D} {w : Bool} (fm : P.Fm ρ G σ H) (hr : ρ[i]? = some (some (d, w))) : ∃ v, σ[i]? = some (some v) ∧ ∀ {G1 H1 : Hp}, Same G G1 → P.Fm ρ G1 σ H1 → Rp X.K H1 v d := by
  cases w with
  | false =>
    obtain ⟨v0, q1, q2⟩ := fm.un i d hr
    exact ⟨v0, q1, fun s1 fm1 => by rw [hK]; exact (q2.mono s1).mono fm1.sub⟩
  | true =>
    obtain ⟨a, o0, q1, _⟩ := fm.ow i d hr
    refine ⟨_, q1, fun s1 fm1 => ?_⟩
    obtain ⟨a', o', p1, p3, _, _, p6⟩ := fm1.ow i d hr
    rw [q1] at p1
    cases p1
    rw [hK]
    exact p6.rp fm1.sub p3
theorem t_neq (i : Nat) {x : Str} {p : Pos} (hK : X.K = P.K) (hu : X.A.units + 100 < cLine) (hN : X.N[i]? = some x) (hv : Vis X.env.scope x) (hd : (x == ("__debug__" : Str)) = false) (hcd : (x == ("__classdict__" : Str)) = false) (hm : behindInMarks .NotEq b = false) (hb : PE X b (T P (.lst []))) :
    PE X (.Compare (.Name x p) [.NotEq] [b] pos) (T P (.neq i)) := by
  refine PEw (pe_cmpR (op_neD (by omega)) (pe_var hN hv hd hcd) hb hm) fun σ H Q ⟨ρ, G, fm, h⟩ => ?_
  simp only [ev] at h
  cases hr : ρ[i]? with
  | none => rw [hr] at h; exact h.elim
  | some o =>
  match o, hr, h with
  | none, hr, h => rw [hr] at h; exact h.elim
  | some (d, w), hr, h =>
    rw [hr] at h
    dsimp only at h
    split at h
    · rename_i hs
      obtain ⟨v, q1, q2⟩ := neq_data i hK fm hr
      refine ⟨v, q1, ρ, G, fm, ?_⟩
      simp only [ev, evA, Rs.bind_ok]
      rw [if_pos (by decide)]
      intro y G1 H1 s1 fm1 r1
      exact ⟨d, .list [], (q2 s1 fm1).dp (shaped_lay hs), Rp.dp (by rw [hK]; exact r1.mono fm1.sub) rfl, hs, rfl, h _ _ _ s1 fm1 (.bl _)⟩
    · exact h.elim
theorem tt_neq (i : Nat) {x : Str} {p : Pos} (hK : X.K = P.K) (hu : X.A.units + 100 < cLine) (hN : X.N[i]? = some x) (hv : Vis X.env.scope x) (hd : (x == ("__debug__" : Str)) = false) (hcd : (x == ("__classdict__" : Str)) = false) (hm : behindInMarks .NotEq b = false) (hb : PE X b (T P (.lst []))) :
    PT X (.Compare (.Name x p) [.NotEq] [b] pos) (TT' P (.neq i)) := by
  refine PTw (pt_cmpR (op_neD (by omega)) (pe_var hN hv hd hcd) hb hm) fun σ H Q ⟨ρ, G, fm, h⟩ => ?_
  simp only [evT, ev] at h
  cases hr : ρ[i]? with
  | none => rw [hr] at h; exact h.elim
  | some o =>
  match o, hr, h with
  | none, hr, h => rw [hr] at h; exact h.elim
  | some (d, w), hr, h =>
    rw [hr] at h
    dsimp only at h
    split at h
    · rename_i hs
      obtain ⟨v, q1, q2⟩ := neq_data i hK fm hr
      refine ⟨v, q1, ρ, G, fm, ?_⟩
      simp only [ev, evA, Rs.bind_ok]
      rw [if_pos (by decide)]
      intro y G1 H1 s1 fm1 r1
      exact ⟨d, .list [], (q2 s1 fm1).dp (shaped_lay hs), Rp.dp (by rw [hK]; exact r1.mono fm1.sub) rfl, hs, rfl, _, rfl, h _ _ _ s1 fm1 rfl⟩
    · exact h.elim
end
end Ev

set_option Elab.async false
set_option linter.all false
set_option maxRecDepth 100000
set_option maxHeartbeats 2000000
namespace Ev
open PySem PySem.Spec PyProof.Rows L2

/-! ## Reads of data -/
section
variable {X : Cx} {pins : List (Addr × Obj)} {σ : L2.St} {H : Hp} {s : Shared}
mutual
theorem rp_reads (I : L2.Inv X pins σ H s) : ∀ {v : V} {d : D} {u : Value}, Rp X.K H v d → d.hasDict = false → RelV v u → ∃ as, Reads s.heap u d as
  | _, _, _, .non, _, r => by cases r; exact ⟨_, .none⟩
  | _, _, _, .bl b, _, r => by cases r; exact ⟨_, .bool b⟩
  | _, _, _, .int i, _, r => by obtain ⟨t, rfl⟩ := r; exact ⟨_, .int i t⟩
  | _, _, _, .str x, _, r => by obtain ⟨t, rfl⟩ := r; exact ⟨_, .str x t⟩
  | _, _, _, .lst s h, hd, r => by
    cases r
    obtain ⟨its, rv, ⟨o, n, h1, h2, _, h4⟩, _⟩ := I.list s.seq
    obtain ⟨as, q⟩ := rp_readsAll I h (by simpa [PyData.hasDict] using hd) rv
    exact ⟨_, .list h1 h2 h4 q⟩
  | _, _, _, .tup s h, hd, r => by
    cases r
    obtain ⟨its, rv, ⟨o, h1, h2, n, h4⟩, _⟩ := I.tuple s
    obtain ⟨as, q⟩ := rp_readsAll I h (by simpa [PyData.hasDict] using hd) rv
    exact ⟨_, .tuple h1 h2 h4 q⟩
  | _, _, _, .dct _ _, hd, _ => by simp [PyData.hasDict] at hd
theorem rp_readsAll (I : L2.Inv X pins σ H s) : ∀ {v : List V} {d : List D} {u : List Value}, RpAll X.K H v d → PyData.hasDictAll d = false → Vals v u → ∃ as, ReadsAll s.heap u d as
  | _, _, _, .nil, _, r => by cases r; exact ⟨_, .nil⟩
  | _, _, _, .cons a b, hd, r => by
    cases r with
    | cons r1 r2 =>
      simp only [PyData.hasDictAll, Bool.or_eq_false_iff] at hd
      obtain ⟨as, q1⟩ := rp_reads I a hd.1 r1
      obtain ⟨bs, q2⟩ := rp_readsAll I b hd.2 r2
      exact ⟨_, .cons q1 q2⟩
end
end
end Ev
namespace Ev
open PySem PySem.Spec PyProof.Rows L2
/-! ## built-ins -/
section
variable {X : Cx}
theorem one_arg {K : PySem.W.Frag} {G : Hp} {xs : List V} {ds : List D} (h : RpAll K G xs ds) {d : D} (e : ds = [d]) : ∃ v, xs = [v] ∧ Rp K G v d := by
  subst e
  cases h with
  | cons a b => cases b; exact ⟨_, rfl, a⟩
theorem two_arg {K : PySem.W.Frag} {G : Hp} {xs : List V} {ds : List D} (h : RpAll K G xs ds) {d e : D} (q : ds = [d, e]) : ∃ v w, xs = [v, w] ∧ Rp K G v d ∧ Rp K G w e := by
  subst q
  cases h with
  | cons a b =>
    cases b with
    | cons c b => cases b; exact ⟨_, _, rfl, a, c⟩
theorem cb_abs : CallR X (.builtin "abs") (rDs X.K absD) := by
  rintro pins s σ H xs us Q I r ⟨G, ds, d, sg, hr, e, g⟩
  unfold absD at e
  split at e
  · obtain ⟨v, rfl, h⟩ := one_arg hr rfl
    cases h
    cases e
    exact call_abs pins s σ H _ _ Q I r ⟨_, rfl, g.int sg⟩
  · cases e
theorem cb_int : CallR X (.type "int") (rDs X.K intD) := by
  rintro pins s σ H xs us Q I r ⟨G, ds, d, sg, hr, e, g⟩
  unfold intD at e
  split at e
  · obtain ⟨v, rfl, h⟩ := one_arg hr rfl
    cases h
    cases e
    exact call_int1 pins s σ H _ _ Q I r (.inl ⟨_, rfl, g.int sg⟩)
  · obtain ⟨v, rfl, h⟩ := one_arg hr rfl
    cases h
    cases e
    exact call_int1 pins s σ H _ _ Q I r (.inr ⟨_, rfl, g.int sg⟩)
  · cases e
theorem cb_len : CallR X (.builtin "len") (rDs X.K lenD) := by
  rintro pins s σ H xs us Q I r ⟨G, ds, d, sg, hr, e, g⟩
  unfold lenD at e
  split at e
  · obtain ⟨v, rfl, h⟩ := one_arg hr rfl
    cases h with
    | @lst a ys _ h1 h2 =>
      cases e
      refine call_len pins s σ H _ _ Q I r ⟨_, ys.length, rfl, .inl ⟨ys, (Same.ls sg h1).seq, rfl⟩, ?_⟩
      rw [h2.length]
      exact g.int sg
  · obtain ⟨v, rfl, h⟩ := one_arg hr rfl
    cases h with
    | @tup a ys _ h1 h2 =>
      cases e
      refine call_len pins s σ H _ _ Q I r ⟨_, ys.length, rfl, .inr ⟨ys, Same.seqT sg h1, rfl⟩, ?_⟩
      rw [h2.length]
      exact g.int sg
  · obtain ⟨v, rfl, h⟩ := one_arg hr rfl
    cases h
    split at e
    · rename_i hl
      cases e
      exact call_len pins s σ H _ _ Q I r ⟨_, _, rfl, ⟨lim_le hl, rfl⟩, g.int sg⟩
    · cases e
  · cases e
theorem cb_str : CallR X (.type "str") (rDs X.K strD) := by
  rintro pins s σ H xs us Q I r ⟨G, ds, d, sg, hr, e, g⟩
  unfold strD at e
  split at e
  · obtain ⟨v, rfl, h⟩ := one_arg hr rfl
    cases h
    split at e
    · rename_i hl
      cases e
      exact call_str_int pins s σ H _ _ Q I r ⟨_, rfl, hl, g.str sg⟩
    · cases e
  · cases e
theorem vals_get : ∀ {xs : List V} {us : List Value}, xs.length = us.length → (∀ (i : Nat) (x : V) (u : Value), xs[i]? = some x → us[i]? = some u → RelV x u) → Vals xs us
  | [], [], _, _ => .nil
  | x :: xs, u :: us, hl, h => .cons (h 0 x u rfl rfl) (vals_get (by simpa using hl) fun i y w h1 h2 => h (i + 1) y w (by simpa using h1) (by simpa using h2))
  | [], _ :: _, hl, _ => by cases hl
  | _ :: _, [], hl, _ => by cases hl
theorem ones_rp {K : PySem.W.Frag} {G : Hp} : ∀ cs : List Nat, RpAll K G (cs.map fun c => V.str ⟨#[c]⟩) (cs.map oneS)
  | [] => .nil
  | c :: cs => .cons (.str _) (ones_rp cs)
theorem cb_list (hc : X.calm = true) : CallR X (.type "list") (rDs X.K listD) := by
  rintro pins s σ H xs us Q I r ⟨G, ds, d, sg, hr, e, g⟩
  unfold listD at e
  split at e
  · obtain ⟨v, rfl, h⟩ := one_arg hr rfl
    cases h with
    | @lst a ys _ h1 h2 =>
      cases e
      exact call_list_of pins s σ H _ _ Q I r ⟨a, ys, rfl, .inl ((Same.ls sg h1).seq), g.lst sg h2⟩
  · obtain ⟨v, rfl, h⟩ := one_arg hr rfl
    cases h with
    | @tup a ys _ h1 h2 =>
      cases e
      exact call_list_of pins s σ H _ _ Q I r ⟨a, ys, rfl, .inr (Same.seqT sg h1), g.lst sg h2⟩
  · obtain ⟨v, rfl, h⟩ := one_arg hr rfl
    cases h
    split at e
    · rename_i z hl
      cases e
      cases r with
      | cons ru rr =>
      cases rr
      obtain ⟨t, rfl⟩ := ru
      have hl' : z.length ≤ sizeLine := lim_le hl
      refine PySem.call_list_str (I.ok.hd hc) z t (hn := hl') fun h' tk acc c' hk hS hi => ?_
      have fr : H s.heap.objs.size = none := I.hok.fresh (Nat.le_refl _)
      have hv : Vals (z.cps.toList.map fun c => V.str ⟨#[c]⟩) acc.toList := vals_get (by simp [hi.1]) fun i x u h1 h2 => by
        obtain ⟨c, w, q1, q2⟩ := hi.2 i u (by simpa using h2)
        have q1' : z.cps.toList[i]? = some c := by simpa using q1
        rw [List.getElem?_map, q1'] at h1
        cases h1
        exact ⟨w, q2⟩
      exact ⟨.ref s.heap.objs.size, upd H s.heap.objs.size (.lst (z.cps.toList.map fun c => V.str ⟨#[c]⟩)), I.laid (t' := tk) hk (Nat.le_refl _) (show ObjOk X.prog X.w _ _ _ (.lst _) from ⟨by rw [List.length_map]; simpa [Str.length] using hl', acc.toList, c', hv, by simpa using hS⟩), rfl, g.lst sg (ones_rp _) _ fr⟩
    · cases e
  · cases e
theorem cb_tuple : CallR X (.type "tuple") (rDs X.K tupleD) := by
  rintro pins s σ H xs us Q I r ⟨G, ds, d, sg, hr, e, g⟩
  unfold tupleD at e
  split at e
  · obtain ⟨v, rfl, h⟩ := one_arg hr rfl
    cases h with
    | @lst a ys _ h1 h2 =>
      cases e
      exact call_tuple_of pins s σ H _ _ Q I r ⟨a, ys, rfl, .inl ⟨(Same.ls sg h1).seq, g.tup sg h2⟩⟩
  · obtain ⟨v, rfl, h⟩ := one_arg hr rfl
    cases h with
    | @tup a ys _ h1 h2 =>
      cases e
      exact call_tuple_of pins s σ H _ _ Q I r ⟨a, ys, rfl, .inr ⟨Same.seqT sg h1, g.sc sg (.tup h1 h2)⟩⟩
  · cases e
theorem cb_divmod : CallR X (.builtin "divmod") (rDs X.K divmodD) := by
  rintro pins s σ H xs us Q I r ⟨G, ds, d, sg, hr, e, g⟩
  unfold divmodD at e
  split at e
  · rename_i i j
    obtain ⟨v, w, rfl, h, h'⟩ := two_arg hr rfl
    cases h
    cases h'
    split at e
    · rename_i hg
      cases e
      obtain ⟨u, w', rfl, ⟨t, rfl⟩, ⟨t', rfl⟩⟩ := vals2 r
      have hj : (0 : Int) < j := hg.1
      refine PyProof.Rows.divmod_int (by omega) ?_ (.inl (PyProof.noPylong_of_log2 (by have := bigG_log hg.2; omega)))
      rw [Int.fdiv_eq_ediv_of_nonneg i (by omega), Int.fmod_eq_emod_of_nonneg i (by omega)]
      have hn : H s.heap.objs.size = none := I.hok.fresh (Nat.le_refl _)
      refine ⟨.ref s.heap.objs.size, _, I.laid (o := .tup [.int (i / j), .int (i % j)]) (fun b o e => Heap.get?_push_of_some _ e) (Nat.le_refl _) ⟨by show 2 ≤ sizeLine; decide, [.int (i / j) s.toks, .int (i % j) (s.toks + 1)], .cons ⟨_, rfl⟩ (.cons ⟨_, rfl⟩ .nil), ?_⟩, rfl,
        g.tup sg (.cons (.int _) (.cons (.int _) .nil)) _ hn⟩
      exact ⟨_, Heap.get?_push_size s.heap rfl, rfl, 0, rfl⟩
    · cases e
  · cases e
theorem ints_of {K : PySem.W.Frag} {G : Hp} : ∀ {xs : List V} {ds : List D} {is : List Int}, RpAll K G xs ds → intsOf ds = some is → xs = is.map V.int
  | _, _, _, .nil, h => by cases h; rfl
  | _, d :: ds, is, .cons a b, h => by
    cases d with
    | int i =>
      have h' : (intsOf ds).map (i :: ·) = some is := h
      cases hq : intsOf ds with
      | none => rw [hq] at h'; cases h'
      | some js =>
        rw [hq] at h'
        cases h'
        cases a
        rw [ints_of b hq]
        rfl
    | _ => cases h
theorem bools_of {K : PySem.W.Frag} {G : Hp} : ∀ {xs : List V} {ds : List D} {is : List Bool}, RpAll K G xs ds → boolsOf ds = some is → xs = is.map V.bl
  | _, _, _, .nil, h => by cases h; rfl
  | _, d :: ds, is, .cons a b, h => by
    cases d with
    | bool i =>
      have h' : (boolsOf ds).map (i :: ·) = some is := h
      cases hq : boolsOf ds with
      | none => rw [hq] at h'; cases h'
      | some js =>
        rw [hq] at h'
        cases h'
        cases a
        rw [bools_of b hq]
        rfl
    | _ => cases h
theorem strs_of {K : PySem.W.Frag} {G : Hp} : ∀ {xs : List V} {ds : List D} {is : List Str}, RpAll K G xs ds → strsOf ds = some is → xs = is.map V.str
  | _, _, _, .nil, h => by cases h; rfl
  | _, d :: ds, is, .cons a b, h => by
    cases d with
    | str i =>
      have h' : (strsOf ds).map (i :: ·) = some is := h
      cases hq : strsOf ds with
      | none => rw [hq] at h'; cases h'
      | some js =>
        rw [hq] at h'
        cases h'
        cases a
        rw [strs_of b hq]
        rfl
    | _ => cases h
theorem lowL_spec : ∀ (m : Int) (xs : List Int), (lowL m xs = m ∨ lowL m xs ∈ xs) ∧ lowL m xs ≤ m ∧ ∀ y ∈ xs, lowL m xs ≤ y
  | m, [] => ⟨.inl rfl, Int.le_refl _, fun y h => by cases h⟩
  | m, x :: xs => by
    obtain ⟨h1, h2, h3⟩ := lowL_spec (if x < m then x else m) xs
    have e : lowL m (x :: xs) = lowL (if x < m then x else m) xs := rfl
    rw [e]
    have hz : ∃ z, z = (if x < m then x else m) ∧ (z ≤ m ∧ z ≤ x) := ⟨_, rfl, by split <;> omega, by split <;> omega⟩
    obtain ⟨z, hz, z1, z2⟩ := hz
    refine ⟨?_, ?_, fun y hy => ?_⟩
    · rcases h1 with h | h
      · rw [h]
        split
        · exact .inr List.mem_cons_self
        · exact .inl rfl
      · exact .inr (List.mem_cons_of_mem _ h)
    · rw [← hz] at h2 ⊢
      omega
    · rcases List.mem_cons.mp hy with q | q
      · subst q
        rw [← hz] at h2 ⊢
        omega
      · exact h3 y q
theorem topL_spec : ∀ (m : Int) (xs : List Int), (topL m xs = m ∨ topL m xs ∈ xs) ∧ m ≤ topL m xs ∧ ∀ y ∈ xs, y ≤ topL m xs
  | m, [] => ⟨.inl rfl, Int.le_refl _, fun y h => by cases h⟩
  | m, x :: xs => by
    obtain ⟨h1, h2, h3⟩ := topL_spec (if m < x then x else m) xs
    have e : topL m (x :: xs) = topL (if m < x then x else m) xs := rfl
    rw [e]
    have hz : ∃ z, z = (if m < x then x else m) ∧ (m ≤ z ∧ x ≤ z) := ⟨_, rfl, by split <;> omega, by split <;> omega⟩
    obtain ⟨z, hz, z1, z2⟩ := hz
    refine ⟨?_, ?_, fun y hy => ?_⟩
    · rcases h1 with h | h
      · rw [h]
        split
        · exact .inr List.mem_cons_self
        · exact .inl rfl
      · exact .inr (List.mem_cons_of_mem _ h)
    · rw [← hz] at h2 ⊢
      omega
    · rcases List.mem_cons.mp hy with q | q
      · subst q
        rw [← hz] at h2 ⊢
        omega
      · exact h3 y q
theorem cb_max (hc : X.calm = true) : CallR X (.builtin "max") (rDs X.K maxD) := by
  rintro pins s σ H xs us Q I r ⟨G, ds, d, sg, hr, e, g⟩
  unfold maxD at e
  split at e
  · obtain ⟨v, w, rfl, h, h'⟩ := two_arg hr rfl
    cases h
    cases h'
    cases e
    exact call_max2 hc pins s σ H _ _ Q I r ⟨_, _, rfl, g.int sg⟩
  · rename_i ys
    obtain ⟨v, rfl, h⟩ := one_arg hr rfl
    cases h with
    | @lst a zs _ h1 h2 =>
      cases hq : intsOf ys with
      | none => rw [hq] at e; cases e
      | some is =>
        rw [hq] at e
        have := ints_of h2 hq
        subst this
        cases is with
        | nil => cases e
        | cons b bs =>
          cases e
          refine cr_max hc pins s σ H _ _ Q I r ⟨a, b :: bs, rfl, (Same.ls sg h1).seq, by simp, fun m m1 m2 => ?_⟩
          obtain ⟨l1, l2, l3⟩ := topL_spec b bs
          have : m = topL b bs := by
            have q1 : topL b bs ≤ m := by
              rcases l1 with l | l
              · rw [l]; exact m2 b List.mem_cons_self
              · exact m2 _ (List.mem_cons_of_mem _ l)
            have q2 : m ≤ topL b bs := by
              rcases List.mem_cons.mp m1 with l | l
              · rw [l]; exact l2
              · exact l3 m l
            omega
          subst this
          exact g.int sg
  · cases e
theorem cb_min (hc : X.calm = true) : CallR X (.builtin "min") (rDs X.K minD) := by
  rintro pins s σ H xs us Q I r ⟨G, ds, d, sg, hr, e, g⟩
  unfold minD at e
  split at e
  · obtain ⟨v, w, rfl, h, h'⟩ := two_arg hr rfl
    cases h
    cases h'
    cases e
    exact call_min2 hc pins s σ H _ _ Q I r ⟨_, _, rfl, g.int sg⟩
  · rename_i ys
    obtain ⟨v, rfl, h⟩ := one_arg hr rfl
    cases h with
    | @lst a zs _ h1 h2 =>
      cases hq : intsOf ys with
      | none => rw [hq] at e; cases e
      | some is =>
        rw [hq] at e
        have := ints_of h2 hq
        subst this
        cases is with
        | nil => cases e
        | cons b bs =>
          cases e
          refine cr_min hc pins s σ H _ _ Q I r ⟨a, b :: bs, rfl, (Same.ls sg h1).seq, by simp, fun m m1 m2 => ?_⟩
          obtain ⟨l1, l2, l3⟩ := lowL_spec b bs
          have : m = lowL b bs := by
            have q1 : m ≤ lowL b bs := by
              rcases l1 with l | l
              · rw [l]; exact m2 b List.mem_cons_self
              · exact m2 _ (List.mem_cons_of_mem _ l)
            have q2 : lowL b bs ≤ m := by
              rcases List.mem_cons.mp m1 with l | l
              · rw [l]; exact l2
              · exact l3 m l
            omega
          subst this
          exact g.int sg
  · cases e
theorem cb_sum (hc : X.calm = true) : CallR X (.builtin "sum") (rDs X.K sumD) := by
  rintro pins s σ H xs us Q I r ⟨G, ds, d, sg, hr, e, g⟩
  unfold sumD at e
  split at e
  · rename_i ys
    obtain ⟨v, rfl, h⟩ := one_arg hr rfl
    cases h with
    | @lst a zs _ h1 h2 =>
      cases hq : intsOf ys with
      | none => rw [hq] at e; cases e
      | some is =>
        rw [hq] at e
        cases e
        have := ints_of h2 hq
        subst this
        exact cr_sum hc pins s σ H _ _ Q I r ⟨a, is, rfl, (Same.ls sg h1).seq, g.int sg⟩
  · cases e
theorem cb_all (hc : X.calm = true) : CallR X (.builtin "all") (rDs X.K allD) := by
  rintro pins s σ H xs us Q I r ⟨G, ds, d, sg, hr, e, g⟩
  unfold allD at e
  split at e
  · rename_i ys
    obtain ⟨v, rfl, h⟩ := one_arg hr rfl
    cases h with
    | @lst a zs _ h1 h2 =>
      cases hq : boolsOf ys with
      | none => rw [hq] at e; cases e
      | some is =>
        rw [hq] at e
        cases e
        have := bools_of h2 hq
        subst this
        exact cr_all hc pins s σ H _ _ Q I r ⟨a, is, rfl, (Same.ls sg h1).seq, g.bl sg⟩
  · cases e
theorem cb_any (hc : X.calm = true) : CallR X (.builtin "any") (rDs X.K anyD) := by
  rintro pins s σ H xs us Q I r ⟨G, ds, d, sg, hr, e, g⟩
  unfold anyD at e
  split at e
  · rename_i ys
    obtain ⟨v, rfl, h⟩ := one_arg hr rfl
    cases h with
    | @lst a zs _ h1 h2 =>
      cases hq : boolsOf ys with
      | none => rw [hq] at e; cases e
      | some is =>
        rw [hq] at e
        cases e
        have := bools_of h2 hq
        subst this
        exact cr_any hc pins s σ H _ _ Q I r ⟨a, is, rfl, (Same.ls sg h1).seq, g.bl sg⟩
  · cases e
theorem ints_rpA {K : PySem.W.Frag} {G : Hp} : ∀ is : List Int, RpAll K G (is.map V.int) (is.map PyData.int)
  | [] => .nil
  | i :: is => .cons (.int i) (ints_rpA is)
theorem cb_sorted : CallR X (.builtin "sorted") (rDs X.K sortedD) := by
  rintro pins s σ H xs us Q I r ⟨G, ds, d, sg, hr, e, g⟩
  unfold sortedD at e
  split at e
  · rename_i ys
    obtain ⟨v, rfl, h⟩ := one_arg hr rfl
    cases h with
    | @lst a zs _ h1 h2 =>
      cases hq : intsOf ys with
      | none => rw [hq] at e; cases e
      | some is =>
        rw [hq] at e
        cases e
        have := ints_of h2 hq
        subst this
        exact cr_sortedI pins s σ H _ _ Q I r ⟨a, is, rfl, (Same.ls sg h1).seq, fun ns' p hp hs hn => by
          obtain rfl := PySem.W.eq_sortI hp hs
          exact g.lst sg (ints_rpA _) p hn⟩
  · cases e
theorem cb_repr (hg : X.A.guards = some []) (hu : X.A.units + 100 < cLine) : CallR X (.builtin "repr") (rDs X.K reprD) := by
  rintro pins s σ H xs us Q I r ⟨G, ds, d, sg, hr, e, g⟩
  unfold reprD at e
  split at e
  · obtain ⟨v, rfl, h⟩ := one_arg hr rfl
    obtain ⟨u, rfl, ru⟩ := vals1 r
    cases e
    cases h with
    | @dct a kvs ds' h1 h2 =>
      cases h2
      cases ru
      obtain ⟨_, hz, vs, kv, o, es, ep, q1, q2, q3, _, q5, _⟩ : (0 : Nat) ≤ sizeLine ∧ (a == sysModules) = false ∧ ∃ vs, KV [] vs ∧ s.heap.DictOf (mixKind X.prog X.w) a vs := I.hok a _ (sg _ _ h1)
      cases kv
      have hes : es.toList = [] := by
        cases hq : es.toList with
        | nil => rfl
        | cons x xs => rw [hq] at q5; cases q5
      have hR : Reads s.heap (.ref a) (.dict []) (a :: [] ++ []) := .dict q1 q2.1 q3 (by rw [hes]; exact .nil) (by rw [hes]; exact .nil)
      refine repr_of_reads' hR rfl (fun _ hm => ?_) hg (by simp [PyData.depth, PyData.depthKv]; omega) (fun b o e => e) (fun h' u tk hk => ⟨.str _, H, I.kept hk, ⟨u, rfl⟩, g.str sg⟩) (by decide +kernel)
      have e : sysModules = a := by simpa using hm
      rw [← e] at hz
      simp at hz
  · rename_i d0 hd0
    obtain ⟨v, rfl, h⟩ := one_arg hr rfl
    obtain ⟨u, rfl, ru⟩ := vals1 r
    split at e
    · rename_i hk
      cases e
      unfold reprOk at hk
      simp only [Bool.and_eq_true, decide_eq_true_eq, Bool.not_eq_true'] at hk
      obtain ⟨⟨⟨k1, k2⟩, k3⟩, k4⟩ := hk
      have fin : ∀ tk t, EP X pins σ Q (.str d0.shown t) { s with toks := tk } := fun tk t => ⟨.str d0.shown, H, I.tok tk, ⟨t, rfl⟩, g.str sg⟩
      cases h with
      | non => cases ru; exact PySem.P.repr_of_none (fin _ _)
      | bl b => cases ru; exact PySem.P.repr_of_bool (by have q := fin (s.toks + 1) s.toks; cases b <;> exact q)
      | int i => obtain ⟨t, rfl⟩ := ru; exact PySem.P.repr_of_int (by simpa [PyData.showable] using k1) (fin _ _)
      | str x => obtain ⟨t, rfl⟩ := ru; exact PySem.P.repr_of_str (fin _ _) (lim_le k4)
      | @lst a ys ds' h1 h2 =>
        cases ru
        obtain ⟨as, hR⟩ := rp_reads I ((Rp.lst h1 h2).mono sg) k2 rfl
        exact repr_of_reads' hR k1 (PyData.noDict_hsm k2) hg (by omega) (fun b o e => e) (fun h' u tk hk => ⟨.str _, H, I.kept hk, ⟨u, rfl⟩, g.str sg⟩) (lim_le k4)
      | @tup a ys ds' h1 h2 =>
        cases ru
        obtain ⟨as, hR⟩ := rp_reads I ((Rp.tup h1 h2).mono sg) k2 rfl
        exact repr_of_reads' hR k1 (PyData.noDict_hsm k2) hg (by omega) (fun b o e => e) (fun h' u tk hk => ⟨.str _, H, I.kept hk, ⟨u, rfl⟩, g.str sg⟩) (lim_le k4)
      | dct h1 h2 => simp [PyData.hasDict] at k2
    · cases e
  · cases e
/-! isinstance -/
theorem rp_ty {K : PySem.W.Frag} {G H : Hp} {v : V} {d : D} (sg : Same G H) (h : Rp K G v d) : TyX K H v (.type (isiT d)) := by
  cases h with
  | non => exact .base .non
  | bl b => exact .base (.bl b)
  | int b => exact .base (.int b)
  | str b => exact .base (.str b)
  | lst h1 h2 =>
    rcases Same.ls sg h1 with (h | ⟨o, h⟩) | ⟨its, n, h, _⟩
    · exact .base (.lst h)
    · exact .base (.frz h)
    · exact .kList h rfl
  | tup h1 h2 =>
    rcases Same.seqT sg h1 with (h | ⟨o, h⟩) | ⟨o, its, n, e, c, _⟩
    · exact .base (.tup h)
    · exact .fTuple h
    · exact .kTuple e c
  | dct h1 h2 => exact .base (.dK (sg _ _ h1))
/-- the tests behind the first argument -/
def rIs (K : PySem.W.Frag) (c : String) : List V → Hp → VK → Prop := fun xs H Q => ∃ G x d b, xs = [x, .ty c] ∧ Same G H ∧ Rp K G x d ∧ isiD d c = some b ∧ Giv K G H (.bool b) Q
theorem cb_isi {c : String} : CallR X (.builtin "isinstance") (rIs X.K c) := by
  rintro pins s σ H xs us Q I r ⟨G, x, d, b, rfl, sg, h, e, g⟩
  exact call_isi pins s σ H _ _ Q I r ⟨x, .ty c, _, _, b, rfl, .ty c, rp_ty sg h, kit_ty e, g.bl sg⟩
end
end Ev

set_option Elab.async false
set_option linter.all false
set_option maxRecDepth 100000
set_option maxHeartbeats 2000000
namespace Ev
open PySem PySem.Spec PyProof.Rows L2

/-! ## a def's promise, where no repr is under way -/
structure FnG (P : Program) (w : World) (K : PySem.W.Frag) (mg : Str → Option Value) (base : Heap) (k : Nat) (f : Addr) (fd : FuncData) (ps : List Str) (sp : Sp) : Prop where
  len : ∀ vs H Q E, sp vs H Q E → vs.length = ps.length
  run : ∀ (A : Around) (outer : List PySem.Env) (s : Shared) (H : Hp) (args : Args) (us : List Value) (vs : List V) (Q : VK) (E : XK), Room k A → A.guards = some [] → Env0 P w K mg base A outer s H →
    BindsTo s fd args (ps.zip us) → Vals vs us → sp vs H Q E → codeAny (model P w) A (.call (.ref f) args) (L2.CR (L2.CX P w) outer P w H s Q E) s
theorem FnG.lift {P : Program} {w : World} {K : PySem.W.Frag} {mg : Str → Option Value} {base : Heap} {j k : Nat} {f : Addr} {fd : FuncData} {ps : List Str} {sp : Sp} (F : FnG P w K mg base j f fd ps sp) (h : j ≤ k) : FnG P w K mg base k f fd ps sp :=
  ⟨F.len, fun A outer s H args us vs Q E hr => F.run A outer s H args us vs Q E (hr.mono h)⟩

/-- a def, by its body -/
theorem fnG_of {P : Program} {w : World} {K : PySem.W.Frag} {mg : Str → Option Value} {base : Heap} {k : Nat} {x qual : Str} {st : Stmt} {f : Addr} {fd : FuncData} {N ps : List Str} {sp : Sp} (F : Fun K x qual st f fd) (S : FnScope N ps (defScope st))
    (len : ∀ vs H Q E, sp vs H Q E → vs.length = ps.length)
    (body : ∀ (cdv : Value) (A : Around) (outer : List PySem.Env) (s : Shared) (H : Hp) (vs : List V) (Q : VK) (E : XK), Room k (A.deeper (envOfC qual (defScope st) s.heap.objs.size f cdv)) → A.guards = some [] → sp vs H Q E →
      ∃ t, PSs (cxOf (L2.CX P w) P w K mg base N qual (defScope st) f cdv A outer s H E) (defBody st) t ∧ t { nx := fun _ H' => Q .non H', rt := Q } (start N vs) H) :
    FnG P w K mg base (k + 1) f fd ps sp := by
  obtain ⟨oc, od, kV, doc, pm, an, cdv, ct, osl, rfl, lk, hcd⟩ := F.ex
  constructor
  · exact len
  intro A outer s H args us vs Q E hr hg e0 hb r hsp
  have KX : K.In s.heap := e0.mod.kin.keeps fun b o q => (e0.bs b o q).1
  have lim : s.heap.NoLimit := e0.mod.nolimit.keeps fun b o q => (e0.bs b o q).1
  refine codeAny_call_function hr.depth (KX _ _ lk) rfl S.co S.gen rfl (PySem.W.codeRec_of KX hcd) (hb _ _ _ _ (wpAny_newFunctionEnv_cells S.kind ?_ ?_))
  · rintro ⟨n, v⟩ hy
    rcases S.par n (List.of_mem_zip hy).1 with q | q
    · exact Or.inl q
    · exact Or.inr ⟨q, PySem.W.cellsFrom_some _ _ _ (Or.inl q)⟩
  · rintro env rfl s1 z
    obtain ⟨t, ht, hq⟩ := body cdv A outer s H vs Q E (hr.deeper _) hg hsp
    refine ⟨lim.keeps z.toInCall.keep, codeAny_func (wpAny_mono (ht.run [] s1 (start N vs) H _ (inv_start S hr.hd e0 (len _ _ _ _ hsp) r z) hq) ?_ fun _ _ q => q)⟩
    intro fl s' hs
    cases fl with
    | ret u => exact let ⟨v, _, H', J, rv, q⟩ := hs; ⟨v, H', J.os, J.bare, J.base, J.hok, rv, q⟩
    | next => exact let ⟨_, H', J, q⟩ := hs; ⟨.non, H', J.os, J.bare, J.base, J.hok, rfl, q⟩
    | brk => exact let ⟨_, _, _, q⟩ := hs; q.elim
    | cont => exact let ⟨_, _, _, q⟩ := hs; q.elim

section
variable {X : Cx} {W : WX} {k : Nat} {f : Addr} {fd : FuncData} {ps ks : List Str} {sp : Sp} {x : Str} {p pos : Pos} {e : Expr} {es : List Expr} {t : TA}
theorem run_G {pins : List (Addr × Obj)} {σ : L2.St} {H : Hp} {s : Shared} {Q : VK} {us ws : List Value} {kw : List (Str × Value)} {vs : List V} (F : FnG X.prog X.w X.K X.mg X.base k f fd ps sp) (hr : Room k X.A) (hg : X.A.guards = some []) (tk : Takes X W)
    (I : L2.Inv X pins σ H s) (hb : BindsTo s fd ⟨us, kw⟩ (ps.zip ws)) (r : Vals vs ws) (h : sp vs H Q (WE W σ)) : wpAny (model X.prog X.w) X.A (call (.ref f) us kw) (EP X pins σ Q) X.xe s := by
  refine wpAny_call (codeAny_mono (F.run X.A X.stack s H ⟨us, kw⟩ ws vs Q (WE W σ) hr hg I.env0 hb r h) ?_)
  rintro (e | fl) s' hq
  · exact passAt tk σ pins H s e s' I hq
  · cases fl with
    | ret u => exact I.after hq
    | next => exact hq.elim
    | brk => exact hq.elim
    | cont => exact hq.elim
theorem pe_G (F : FnG X.prog X.w X.K X.mg X.base k f fd ps sp) (hr : Room k X.A) (hg : X.A.guards = some []) (tk : Takes X W) (gl : Gl X x) (hm : X.mg x = some (.ref f)) (hk : PySem.W.keepIn X.K (.ref f) = true) (hb : Binds X.K fd ps [])
    (ha : PA X (e :: es) t) (hdb : (x == ("__debug__" : Str)) = false) (he : starEach (e :: es) X.env = (false, eval e X.env) :: starEach es X.env) (hpl : (backTo pos (starEach es X.env)).any (·.1) = false) :
    PE X (.Call (.Name x p) (e :: es) [] pos) (tCallS sp (WE W) t) := by
  constructor
  intro pins s σ H Q I h
  refine wpAny_Call_Name_kw (ld_glob I gl hm (PySem.W.callWith_K (h₀ := X.base) I.ok.mod.kin hk ?_ he hpl) hdb)
  refine thn (ha.run pos pins s σ H _ I h) ?_
  rintro us s1 ⟨vs, H1, I1, r, q⟩
  have hb' := hb s1 us I1.kIn (by rw [List.append_nil, ← r.length]; exact F.len _ _ _ _ q)
  rw [List.append_nil] at hb'
  exact ⟨I1.kIn, run_G F hr hg tk I1 hb' r q⟩
theorem pe_G0 (F : FnG X.prog X.w X.K X.mg X.base k f fd ps sp) (hr : Room k X.A) (hg : X.A.guards = some []) (tk : Takes X W) (gl : Gl X x) (hm : X.mg x = some (.ref f)) (hk : PySem.W.keepIn X.K (.ref f) = true) (hb : Binds X.K fd ps [])
    (hdb : (x == ("__debug__" : Str)) = false) : PE X (.Call (.Name x p) [] [] pos) (tCallS sp (WE W) tNil) := by
  constructor
  intro pins s σ H Q I h
  refine wpAny_Call_Name_kw (ld_glob I gl hm (PySem.W.callWith_K0 I.kIn hk ?_) hdb)
  have hb' := hb s [] I.kIn (F.len _ _ _ _ h)
  exact run_G (us := []) F hr hg tk I hb' .nil h
/-- how keywords bind: perm tells each parameter's place among them -/
def KwB (K : PySem.W.Frag) (fd : FuncData) (ps ks : List Str) (perm : List Nat) : Prop := ∀ (s : Shared) (ws us : List Value), K.In s.heap → ws.length = ks.length → perm.mapM (fun i => ws[i]?) = some us → BindsTo s fd ⟨[], ks.zip ws⟩ (ps.zip us)
theorem vals_perm : ∀ {perm : List Nat} {vs zs : List V} {ws : List Value}, Vals vs ws → perm.mapM (fun i => vs[i]?) = some zs → ∃ us, perm.mapM (fun i => ws[i]?) = some us ∧ Vals zs us
  | [], vs, zs, ws, r, h => by
    simp only [List.mapM_nil, Option.pure_def, Option.some.injEq] at h ⊢
    subst h
    exact ⟨[], rfl, .nil⟩
  | i :: perm, vs, zs, ws, r, h => by
    rw [List.mapM_cons] at h ⊢
    cases hi : vs[i]? with
    | none => rw [hi] at h; cases h
    | some v =>
      rw [hi] at h
      cases hp : perm.mapM (fun i => vs[i]?) with
      | none => rw [hp] at h; cases h
      | some zs' =>
        rw [hp] at h
        cases h
        obtain ⟨u, h1, h2⟩ := r.get hi
        obtain ⟨us, h3, h4⟩ := vals_perm r hp
        rw [h1, h3]
        exact ⟨u :: us, rfl, .cons h2 h4⟩
/-- f(a=.., b=..) -/
theorem pe_GK {kws : List Keyword} {perm : List Nat} (F : FnG X.prog X.w X.K X.mg X.base k f fd ps sp) (hr : Room k X.A) (hg : X.A.guards = some []) (tk : Takes X W) (gl : Gl X x) (hm : X.mg x = some (.ref f)) (hk : PySem.W.keepIn X.K (.ref f) = true) (hb : KwB X.K fd ps ks perm)
    (ha : PK X kws t) (hdb : (x == ("__debug__" : Str)) = false) (hall : (backToKw pos (keywordEach kws X.env)).all (·.1.isSome) = true) (hks : (backToKw pos (keywordEach kws X.env)).filterMap (·.1) = ks)
    (hpl : ((backTo pos (starEach [] X.env)).any (·.1) || (backToKw pos (keywordEach kws X.env)).any (·.1.isNone)) = false) (hlen : kws.length = ks.length) :
    PE X (.Call (.Name x p) [] kws pos) (fun σ H Q => t σ H fun vs H1 => vs.length = ks.length ∧ ∃ zs, perm.mapM (fun i => vs[i]?) = some zs ∧ sp zs H1 Q (WE W σ)) := by
  constructor
  intro pins s σ H Q I h
  refine wpAny_Call_Name_kw (ld_glob I gl hm (PySem.W.callWith_KW0 (h₀ := X.base) I.ok.mod.kin hk hall ?_ hpl) hdb)
  refine thn (ha.run pos pins s σ H _ I h) ?_
  rintro ws s1 ⟨vs, H1, I1, r, hl, zs, hz, q⟩
  rw [hks]
  obtain ⟨us, h1, h2⟩ := vals_perm r hz
  exact ⟨I1.kIn, run_G (us := []) F hr hg tk I1 (hb s1 ws us I1.kIn (by rw [← r.length]; exact hl) h1) h2 q⟩
end
end Ev

set_option Elab.async false
set_option linter.all false
set_option maxRecDepth 100000
set_option maxHeartbeats 2000000
namespace Ev
open PySem PySem.Spec PyProof.Rows L2

/-! ## what a def promises, by the evaluator -/
/-- what stays through a call: a0 is the list that was lent -/
def Stay (G H : Hp) (io : Option Addr) (G' H' : Hp) : Prop := ∀ b, H b ≠ none → G b = none → io ≠ some b → H' b = H b ∧ G' b = none
/-- what has become of the list that was lent -/
def Lent (K : PySem.W.Frag) (io : Option Addr) (d0 : Option D) (G' H' : Hp) : Prop := match io, d0 with
  | none, none => True
  | some a, some (.list ds) => G' a = none ∧ ∃ ys, H' a = some (.lst ys) ∧ RpAll K G' ys ds
  | _, _ => False
def EndC (K : PySem.W.Frag) (mg : Str → Option Value) (G H : Hp) (io : Option Addr) (r : Ev.CR) (Q : VK) (E : XK) : Prop := match r with
  | .ok d d0 => ∀ v G' H', Same G G' → Same G' H' → Stay G H io G' H' → Rp K G' v d → Lent K io d0 G' H' → Q v H'
  | .ow ds d0 => ∀ p xs G' H', Same G G' → Same G' H' → Stay G H io G' H' → H p = none → G' p = none → H' p = some (.lst xs) → RpAll K G' xs ds → Lent K io d0 G' H' → Q (.ref p) H'
  | .er c f d0 => ∀ cls dx G' H', Same G G' → Same G' H' → Stay G H io G' H' → ErrV ⟨K, mg, fun _ => False, H, io, fun _ _ => .bad, fun _ _ _ _ => False⟩ c f cls dx G' → Lent K io d0 G' H' → E cls dx H'
  | .bad => False
/-- the arguments -/
def ArgC (K : PySem.W.Frag) (G H : Hp) (io : Option Addr) (vs : List V) (ds : List D) : Prop := match io with
  | none => RpAll K G vs ds
  | some a => ∃ us xs es rs, vs = .ref a :: us ∧ ds = .list es :: rs ∧ H a = some (.lst xs) ∧ G a = none ∧ RpAll K G xs es ∧ RpAll K G us rs
def spD (K : PySem.W.Frag) (mg : Str → Option Value) (cal : Cal) (x : Str) (b : Bool) (n : Nat) : Sp := fun vs H Q E => ∃ G ds io, vs.length = n ∧ Same G H ∧ Option.isSome io = b ∧ ArgC K G H io vs ds ∧ EndC K mg G H io (cal x ds) Q E

section
variable {P : Pm} {G G' H H' : Hp} {σ : L2.St} {ρ : Ro}
/-- behind a call that was lent nothing -/
theorem fm_call (fm : P.Fm ρ G σ H) (s1 : Same G G') (s2 : Same G' H') (st : Stay G H none G' H') : P.Fm ρ G' σ H' where
  sub := s2
  len := fm.len
  un := fun i d h => let ⟨v, h1, h2⟩ := fm.un i d h; ⟨v, h1, h2.mono s1⟩
  ow := fun i d h => by
    obtain ⟨a, o, h1, h3, h4, h5, h6⟩ := fm.ow i d h
    obtain ⟨q1, q2⟩ := st a (by rw [h3]; exact fun z => nomatch z) h4 (fun z => nomatch z)
    exact ⟨a, o, h1, q1.trans h3, q2, h5, h6.mono s1⟩
  dis := fm.dis
  zg := fun b hb => by
    obtain ⟨h1, h2, h3⟩ := fm.zg b hb
    obtain ⟨q1, q2⟩ := st b (by rw [h2]; exact h3) h1 (fun z => nomatch z)
    exact ⟨q2, q1.trans h2, h3⟩
  at0 := fm.at0
/-- behind a call that was lent slot i's list -/
theorem fm_lent {i : Nat} {d : D} {a : Addr} {es : List D} {ys : List V} (fm : P.Fm ρ G σ H) (hi : ρ[i]? = some (some (d, true))) (ha : σ[i]? = some (some (.ref a))) (s1 : Same G G') (s2 : Same G' H') (st : Stay G H (some a) G' H')
    (g : G' a = none) (h : H' a = some (.lst ys)) (r : RpAll P.K G' ys es) : P.Fm (ρ.set i (some (.list es, true))) G' σ H' := by
  have il : i < ρ.length := (List.getElem?_eq_some_iff.mp hi).1
  have za : ¬ P.Z a := by
    obtain ⟨a', o, h1, _, _, h5, _⟩ := fm.ow i d hi
    rw [ha] at h1
    cases h1
    exact h5
  refine ⟨s2, by rw [List.length_set]; exact fm.len, fun j e hj => ?_, fun j e hj => ?_, fun j k d' e b hj hk h1 h2 => ?_, fun b hb => ?_, fm.at0⟩
  · by_cases hij : i = j
    · subst hij
      rw [List.getElem?_set_self il] at hj
      cases hj
    · rw [List.getElem?_set_ne hij] at hj
      obtain ⟨v, q1, q2⟩ := fm.un j e hj
      exact ⟨v, q1, q2.mono s1⟩
  · by_cases hij : i = j
    · subst hij
      rw [List.getElem?_set_self il] at hj
      cases hj
      exact ⟨a, .lst ys, ha, h, g, za, r⟩
    · rw [List.getElem?_set_ne hij] at hj
      obtain ⟨b, o, q1, q3, q4, q5, q6⟩ := fm.ow j e hj
      have ne : b ≠ a := fun z => hij (fm.dis i j _ _ a hi hj ha (by rw [← z]; exact q1))
      obtain ⟨w1, w2⟩ := st b (by rw [q3]; exact fun z => nomatch z) q4 (fun z => ne (Option.some.inj z).symm)
      exact ⟨b, o, q1, w1.trans q3, w2, q5, q6.mono s1⟩
  · have own : ∀ j d, (ρ.set i (some (PyData.list es, true)))[j]? = some (some (d, true)) → ∃ d', ρ[j]? = some (some (d', true)) := fun j d hj => by
      by_cases hij : i = j
      · subst hij
        exact ⟨_, hi⟩
      · rw [List.getElem?_set_ne hij] at hj
        exact ⟨_, hj⟩
    obtain ⟨_, w1⟩ := own _ _ hj
    obtain ⟨_, w2⟩ := own _ _ hk
    exact fm.dis j k _ _ b w1 w2 h1 h2
  · obtain ⟨q1, q2, q3⟩ := fm.zg b hb
    have ne : b ≠ a := fun z => za (by rw [← z]; exact hb)
    obtain ⟨w1, w2⟩ := st b (by rw [q2]; exact q3) q1 (fun z => ne (Option.some.inj z).symm)
    exact ⟨w2, w1.trans q2, q3⟩
end

section
variable {P : Pm} {X : Cx} {a b c e : Expr} {ca cb cc ce : CE} {cs : List CE} {pos : Pos}
/-! ## slices -/
theorem cut_rp {K : PySem.W.Frag} {G : Hp} {xs : List V} {ds : List D} {lo hi : Option Int} (h : RpAll K G xs ds) : RpAll K G (cutV xs lo hi) (cutD ds lo hi) := by
  unfold cutV cutD
  rw [h.length]
  exact (h.drop _).take _
theorem sl_D {K : PySem.W.Frag} (hK : X.K = K) : SlR X (fun x lo hi H Q => ∃ G dx d, Same G H ∧ Rp K G x dx ∧ slcD dx lo hi = some d ∧ Giv K G H d Q) := by
  subst hK
  rintro pins s σ H x v vl vu lo hi sl Q I rx hs pl pu ⟨G, dx, d, sg, hx, e, g⟩
  cases hx with
  | @lst a xs ds h1 h2 =>
    cases e
    exact sl_list pins s σ H _ v vl vu lo hi sl Q I rx hs pl pu ⟨a, xs, rfl, (Same.ls sg h1).seq, g.lst sg (cut_rp h2)⟩
  | @tup a xs ds h1 h2 =>
    have e' : (if HT.sIx ds.length 0 lo = 0 ∧ HT.sIx ds.length ds.length hi = ds.length then none else some (PyData.tuple (cutD ds lo hi))) = some d := e
    split at e'
    · cases e'
    · rename_i hc
      cases e'
      exact sl_tup pins s σ H _ v vl vu lo hi sl Q I rx hs pl pu ⟨a, xs, rfl, Same.seqT sg h1, by rw [h2.length]; exact hc, g.tup sg (cut_rp h2)⟩
  | str z =>
    have e' : (if z.length ≤ lim then some (PyData.str (cutS z lo hi)) else none) = some d := e
    split at e'
    · rename_i hl
      cases e'
      exact sl_str pins s σ H _ v vl vu lo hi sl Q I rx hs pl pu ⟨z, rfl, lim_le hl, g.str sg⟩
    · cases e'
  | _ => cases e
theorem to_none : PO X none (TOp P none) := ⟨fun pins s σ H Q I ⟨ρ, G, fm, h⟩ => po_none.run pins s σ H Q I (h.ret fm rfl)⟩
theorem to_some (h : PE X e (T P ce)) : PO X (some e) (TOp P (some ce)) := ⟨fun pins s σ H Q I ⟨ρ, G, fm, hq⟩ => (po_some h).run pins s σ H Q I ⟨ρ, G, fm, by
  simp only [evO] at hq
  refine Out.bind hq fun d ρ1 v G1 H1 s1 fm1 r1 h1 => ?_
  cases r1 with
  | int i => exact ⟨i, rfl, h1.ret fm1 rfl⟩
  | _ => exact h1.elim⟩⟩
theorem t_slc (hK : X.K = P.K) {lo hi : Option Expr} {cl ch : Option CE} {p2 : Pos} (ha : PE X a (T P ca)) (hl : PO X lo (TOp P cl)) (hh : PO X hi (TOp P ch)) : PE X (.Subscript a (.Slice lo hi none p2) pos) (T P (.slc ca cl ch)) := by
  refine PEw (pe_slice (sl_D hK) ha hl hh) fun σ H Q ⟨ρ, G, fm, h⟩ => ⟨ρ, G, fm, ?_⟩
  simp only [ev] at h
  refine Out.bind h fun x ρ1 v G1 H1 s1 fm1 r1 h1 => ⟨ρ1, G1, fm1, ?_⟩
  refine Out.bind h1 fun l ρ2 l' G2 H2 s2 fm2 r2 h2 => ⟨ρ2, G2, fm2, ?_⟩
  refine Out.bind h2 fun u ρ3 u' G3 H3 s3 fm3 r3 h3 => ?_
  obtain ⟨d, e1, g⟩ := h3.giveO fm3
  have r2' : l' = l := r2
  have r3' : u' = u := r3
  subst r2' r3'
  exact ⟨G3, x, d, fm3.sub, (r1.mono s2).mono s3, e1, g⟩
theorem t_rev (hK : X.K = P.K) {k : Nat} {p1 p2 p3 : Pos} (ha : PE X a (T P ca)) : PE X (.Subscript a (.Slice none none (some (.UnaryOp .USub (.Constant (.int 1) k p1) p2)) p3) pos) (T P (.rev ca)) := by
  refine PEw (pe_revL ha) fun σ H Q ⟨ρ, G, fm, h⟩ => ⟨ρ, G, fm, ?_⟩
  simp only [ev] at h
  refine Out.bind h fun x ρ1 v G1 H1 s1 fm1 r1 h1 => ?_
  obtain ⟨d, e1, g⟩ := h1.giveO fm1
  rw [hK]
  cases r1 with
  | @lst a xs ds q1 q2 =>
    cases e1
    exact ⟨a, xs, rfl, (Same.ls fm1.sub q1).seq, g.lst fm1.sub q2.reverse⟩
  | _ => cases e1
/-! ## list(range(..)) -/
theorem rg_rp {K : PySem.W.Frag} {G : Hp} (a b : Int) : RpAll K G (rgV a b) (rngL a b) := by
  unfold rgV rngL
  generalize (b - a).toNat = n
  have : ∀ l : List Nat, RpAll K G (l.map fun i => V.int (a + (i : Nat))) (l.map fun (k : Nat) => PyData.int (a + k)) := fun l => by
    induction l with
    | nil => exact .nil
    | cons x l ih => exact .cons (.int _) ih
  exact this _
theorem lrD_some {x y d : D} (h : lrD x y = some d) : ∃ a b, x = .int a ∧ y = .int b ∧ RgOk a b ∧ d = .list (rngL a b) := by
  cases x with
  | int a =>
    cases y with
    | int b =>
      have h' : (if (-(2 ^ 62) ≤ a ∧ a < 2 ^ 62) ∧ (-(2 ^ 62) ≤ b ∧ b < 2 ^ 62) ∧ (b - a).toNat ≤ lim then some (PyData.list (rngL a b)) else none) = some d := h
      split at h'
      · rename_i q
        cases h'
        exact ⟨a, b, rfl, rfl, ⟨q.1.1, q.1.2, q.2.1.1, q.2.1.2, Nat.le_trans q.2.2 (by decide)⟩, rfl⟩
      · cases h'
    | _ => cases h
  | _ => cases h
theorem t_lr1 {p p2 pos2 : Pos} (hc : X.calm = true) (gl : Gl X "list") (hm : X.mg "list" = none) (gr : Gl X "range") (hmr : X.mg "range" = none) (ha : PE X a (T P ca)) (sa : starEach [a] X.env = (false, eval a X.env) :: starEach [] X.env) :
    PE X (.Call (.Name "list" p) [.Call (.Name "range" p2) [a] [] pos2] [] pos) (T P (.lr1 ca)) := by
  refine PEw (pe_listRg hc gl hm (prg_1 gr hmr ha sa)) fun σ H Q ⟨ρ, G, fm, h⟩ => ⟨ρ, G, fm, ?_⟩
  simp only [ev] at h
  refine Out.bind h fun x ρ1 v G1 H1 s1 fm1 r1 h1 => ?_
  obtain ⟨d, e1, g⟩ := h1.giveO fm1
  obtain ⟨i, j, e2, rfl, ok, rfl⟩ := lrD_some e1
  cases e2
  cases r1
  exact ⟨j, rfl, ok, g.lst fm1.sub (rg_rp 0 j)⟩
theorem t_lr2 {p p2 pos2 : Pos} (hc : X.calm = true) (gl : Gl X "list") (hm : X.mg "list" = none) (gr : Gl X "range") (hmr : X.mg "range" = none) (ha : PE X a (T P ca)) (hb : PE X b (T P cb)) (sa : starEach [a, b] X.env = (false, eval a X.env) :: starEach [b] X.env) (sb : starEach [b] X.env = (false, eval b X.env) :: starEach [] X.env)
    (sp : (backTo pos2 (starEach [b] X.env)).any (·.1) = false) : PE X (.Call (.Name "list" p) [.Call (.Name "range" p2) [a, b] [] pos2] [] pos) (T P (.lr2 ca cb)) := by
  refine PEw (pe_listRg hc gl hm (prg_2 gr hmr ha hb sa sb sp)) fun σ H Q ⟨ρ, G, fm, h⟩ => ⟨ρ, G, fm, ?_⟩
  simp only [ev] at h
  refine Out.bind h fun x ρ1 v G1 H1 s1 fm1 r1 h1 => ⟨ρ1, G1, fm1, ?_⟩
  refine Out.bind h1 fun y ρ2 w G2 H2 s2 fm2 r2 h2 => ?_
  obtain ⟨d, e1, g⟩ := h2.giveO fm2
  obtain ⟨i, j, rfl, rfl, ok, rfl⟩ := lrD_some e1
  cases r1
  cases r2
  exact ⟨i, j, rfl, rfl, ok, g.lst fm2.sub (rg_rp i j)⟩
/-! ## built-ins, methods -/
theorem t_args {r : List V → Hp → VK → Prop} {f : List D → Option D} (hr : ∀ {G H : Hp} {xs : List V} {ds : List D} {d : D} {Q : VK}, Same G H → RpAll P.K G xs ds → f ds = some d → Giv P.K G H d Q → r xs H Q) {σ : L2.St} {H : Hp} {Q : VK}
    (h : ∃ ρ G, P.Fm ρ G σ H ∧ Out P (fun G v d => Rp P.K G v d) G σ ((evA P.cal P.b0 cs ρ).bind fun ds ρ1 => ofO (f ds) ρ1) Q) : tCB r (TAs P cs) σ H Q := by
  obtain ⟨ρ, G, fm, h⟩ := h
  refine ⟨ρ, G, fm, Out.bind h fun ds ρ1 vs G1 H1 s1 fm1 r1 h1 => ?_⟩
  obtain ⟨d, e1, g⟩ := h1.giveO fm1
  exact hr fm1.sub r1 e1 g
theorem t_bltB {f : Bi} {id : String} {x : Str} {p : Pos} {es : List Expr} (hK : X.K = P.K) (hc : CallR X (.builtin id) (rDs X.K (bltD f))) (gl : Gl X x) (hm : X.mg x = none) (hv : bootBuiltins x = some (.builtin id)) (ha : PA X (e :: es) (TAs P cs)) (hn : x ≠ "__name__")
    (hd : (x == ("__debug__" : Str)) = false) (he : starEach (e :: es) X.env = (false, eval e X.env) :: starEach es X.env) (hpl : (backTo pos (starEach es X.env)).any (·.1) = false) : PE X (.Call (.Name x p) (e :: es) [] pos) (T P (.blt f cs)) := by
  refine PEw (pe_callB hc gl hm hv ha hn hd he hpl) fun σ H Q h => t_args (fun sg r e g => ?_) (by simpa only [T, ev] using h)
  rw [hK]
  exact ⟨_, _, _, sg, r, e, g⟩
theorem t_bltT {f : Bi} {id : String} {x : Str} {p : Pos} {es : List Expr} (hK : X.K = P.K) (hc : CallR X (.type id) (rDs X.K (bltD f))) (gl : Gl X x) (hm : X.mg x = none) (hv : bootBuiltins x = some (.type id)) (ha : PA X (e :: es) (TAs P cs)) (hn : x ≠ "__name__")
    (hd : (x == ("__debug__" : Str)) = false) (he : starEach (e :: es) X.env = (false, eval e X.env) :: starEach es X.env) (hpl : (backTo pos (starEach es X.env)).any (·.1) = false) : PE X (.Call (.Name x p) (e :: es) [] pos) (T P (.blt f cs)) := by
  refine PEw (pe_callTy hc gl hm hv ha hn hd he hpl) fun σ H Q h => t_args (fun sg r e g => ?_) (by simpa only [T, ev] using h)
  rw [hK]
  exact ⟨_, _, _, sg, r, e, g⟩
theorem repr_str {d e : D} (h : bltD .repr [d] = some e) : ∃ z, e = .str z := by
  have h' : reprD [d] = some e := h
  unfold reprD at h'
  split at h'
  · cases h'; exact ⟨_, rfl⟩
  · split at h'
    · cases h'; exact ⟨_, rfl⟩
    · cases h'
  · cases h'
/-- repr of a name's value, which stays as it is -/
theorem t_rpo (i : Nat) {x y : Str} {p p2 : Pos} (hK : X.K = P.K) (hc : CallR X (.builtin "repr") (rDs X.K (bltD .repr))) (gl : Gl X x) (hm : X.mg x = none) (hv : bootBuiltins x = some (.builtin "repr")) (hN : X.N[i]? = some y) (hvy : Vis X.env.scope y) (hdy : (y == ("__debug__" : Str)) = false) (hcd : (y == ("__classdict__" : Str)) = false) (hn : x ≠ "__name__")
    (hd : (x == ("__debug__" : Str)) = false) (he : starEach [.Name y p2] X.env = (false, eval (.Name y p2) X.env) :: starEach [] X.env) : PE X (.Call (.Name x p) [.Name y p2] [] pos) (T P (.rpo i)) := by
  refine PEw (pe_callB hc gl hm hv (pa_cons (pe_var hN hvy hdy hcd) pa_nil he) hn hd he (by rfl)) fun σ H Q ⟨ρ, G, fm, h⟩ => ?_
  simp only [ev] at h
  cases hr : ρ[i]? with
  | none => rw [hr] at h; exact h.elim
  | some o =>
  match o, hr, h with
  | none, hr, h => rw [hr] at h; exact h.elim
  | some (d, w), hr, h =>
    rw [hr] at h
    dsimp only at h
    cases hb : bltD .repr [d] with
    | none => rw [hb] at h; exact h.elim
    | some e =>
      rw [hb] at h
      obtain ⟨z, rfl⟩ := repr_str hb
      obtain ⟨v, q1, q2⟩ := neq_data i hK fm hr
      refine ⟨v, q1, H, [d], .str z, Same.refl H, .cons (q2 (Same.refl G) fm) .nil, hb, fun u G' H' e r => ?_⟩
      cases r
      exact h _ G H' (Same.refl G) (fm.ext ⟨Same.refl G, fun b x q => by rw [e.hold b (fun z => by rw [fm.sub b x q] at z; cases z)]; exact fm.sub b x q, e.hold, fun _ _ => rfl⟩) (.str _)
theorem t_isi {x y : Str} {p p2 : Pos} {id : String} (hK : X.K = P.K) (gl : Gl X x) (hm : X.mg x = none) (hv : bootBuiltins x = some (.builtin "isinstance")) (gy : Gl X y) (hy : X.mg y = none) (hw : bootBuiltins y = some (.type id)) (ha : PE X a (T P ca))
    (hn : x ≠ "__name__") (hd : (x == ("__debug__" : Str)) = false) (hn2 : y ≠ "__name__") (hd2 : (y == ("__debug__" : Str)) = false) (hst : starEach [a, .Name y p2] X.env = (false, eval a X.env) :: starEach [.Name y p2] X.env) :
    PE X (.Call (.Name x p) [a, .Name y p2] [] pos) (T P (.isi ca id)) := by
  refine PEw (pe_callB (cb_isi (c := id)) gl hm hv (pa_cons ha (pa_cons (pe_bltn (v := .ty id) gy hy hw rfl hn2 hd2) pa_nil) hst) hn hd hst (by rfl)) fun σ H Q ⟨ρ, G, fm, h⟩ => ⟨ρ, G, fm, ?_⟩
  simp only [ev] at h
  refine Out.bind h fun x ρ1 v G1 H1 s1 fm1 r1 h1 => ?_
  obtain ⟨d, e1, g⟩ := h1.giveO fm1
  rw [hK]
  cases hq : isiD x id with
  | none => rw [hq] at e1; cases e1
  | some k =>
    rw [hq] at e1
    cases e1
    exact ⟨G1, v, x, k, rfl, fm1.sub, r1, hq, g⟩
def rM (K : PySem.W.Frag) (f : D → List D → Option D) : V → List V → Hp → VK → Prop := fun x xs H Q => ∃ G dx ds d, Same G H ∧ Rp K G x dx ∧ RpAll K G xs ds ∧ f dx ds = some d ∧ Giv K G H d Q
theorem mt_joinD : MtR X "str.join" (rM X.K joinD) := by
  rintro pins s σ H x xs v us Q I rx rv ⟨G, dx, ds, d, sg, hx, hr, e, g⟩
  unfold joinD at e
  split at e
  · rename_i z zs
    obtain ⟨w, rfl, h⟩ := one_arg hr rfl
    cases hx
    cases h with
    | @lst p ys _ h1 h2 =>
      cases hq : strsOf zs with
      | none => rw [hq] at e; cases e
      | some is =>
        rw [hq] at e
        simp only [Option.bind_some] at e
        split at e
        · rename_i hl
          cases e
          have := strs_of h2 hq
          subst this
          exact mt_join pins s σ H _ _ v us Q I rx rv ⟨_, p, is, rfl, rfl, .inl ((Same.ls sg h1).seq), lim_le16 hl, g.str sg⟩
        · cases e
  · cases e
theorem mt_zfillD : MtR X "str.zfill" (rM X.K zfillD) := by
  rintro pins s σ H x xs v us Q I rx rv ⟨G, dx, ds, d, sg, hx, hr, e, g⟩
  unfold zfillD at e
  split at e
  · obtain ⟨w, rfl, h⟩ := one_arg hr rfl
    cases hx
    cases h
    split at e
    · rename_i hp
      cases e
      exact mt_zfill pins s σ H _ _ v us Q I rx rv ⟨_, _, rfl, rfl, hp, g.str sg⟩
    · cases e
  · cases e
theorem mt_indexA (hu : X.A.units + 100 < cLine) : MtR X "list.index" (rM X.K indexD) := by
  rintro pins s σ H x xs v us Q I rx rv ⟨G, dx, ds, d, sg, hx, hr, e, g⟩
  unfold indexD at e
  split at e
  · rename_i zs d0
    obtain ⟨w, rfl, h⟩ := one_arg hr rfl
    split at e
    · rename_i hs
      rw [Bool.and_eq_true] at hs
      cases hx with
      | @lst p ys _ h1 h2 =>
        cases hq : zs.findIdx? (fun z => PyData.eqv z d0) with
        | none => rw [hq] at e; cases e
        | some j =>
          rw [hq] at e
          cases e
          obtain ⟨hj, hb, hbef⟩ := List.findIdx?_eq_some_iff_getElem.mp hq
          refine mt_indexD (by omega) pins s σ H _ _ v us Q I rx rv ⟨p, w, d0, zs, j, zs[j], rfl, rfl, Rp.dp (.lst (Same.ls sg h1) (h2.mono sg)) (shaped_lay hs.1), (h.mono sg).dp (shaped_lay hs.2), hs.1, hs.2, List.getElem?_eq_getElem hj, hb, fun m z' hm hz => ?_, g.int sg⟩
          obtain ⟨hm', hz'⟩ := List.getElem?_eq_some_iff.mp hz
          have := hbef m hm
          rw [hz'] at this
          simpa using this
    · cases e
  · cases e
end
end Ev

set_option Elab.async false
set_option linter.all false
set_option maxRecDepth 100000
set_option maxHeartbeats 2000000
namespace Ev
open PySem PySem.Spec PyProof.Rows L2
section
variable {P : Pm} {X : Cx} {a b c e o : Expr} {ca cb cc ce co : CE} {cs : List CE} {pos : Pos}
theorem t_mthS {m : Mi} {name : Str} {id : String} {es : List Expr} {apos cpos : Pos} (hK : X.K = P.K) (hm' : ∀ x, recv m x = true → ∃ z, x = PyData.str z) (slot : Slot "str" name id) (hty : typeOf (.builtin id) = pure (.type "method_descriptor")) (hm : MtR X id (rM X.K (mthD m)))
    (ho : PE X o (T P co)) (ha : PA X (e :: es) (TAs P cs)) (h1 : attributeBase o name X.env (eval o X.env) = eval o X.env) (h2 : ((backTo cpos (starEach (e :: es) X.env)).all (fun x => !x.1) && (backToKw cpos (keywordEach [] X.env)).all (fun x => x.1.isSome) && decide ((e :: es).length + ([] : List Keyword).length + (if ([] : List Keyword).isEmpty then 0 else 1) < 30)) = true)
    (h3 : (apos.endLine == cpos.line) = true) (h4 : starEach (e :: es) X.env = (false, eval e X.env) :: starEach es X.env) (h5 : (backTo cpos (starEach es X.env)).any (·.1) = false) : PE X (.Call (.Attribute o name apos) (e :: es) [] cpos) (T P (.mth m co cs)) := by
  refine PEw (pe_bm PySem.F.plainAttrs_str slot hty hm ho ha h1 h2 h3 h4 h5) fun σ H Q ⟨ρ, G, fm, h⟩ => ⟨ρ, G, fm, ?_⟩
  simp only [ev] at h
  refine Out.bind h fun x ρ1 v G1 H1 s1 fm1 r1 q1 => ?_
  split at q1
  · rename_i hr
    obtain ⟨z, rfl⟩ := hm' x hr
    cases r1
    refine ⟨rfl, ρ1, G1, fm1, Out.bind q1 fun ds ρ2 vs G2 H2 s2 fm2 r2 q2 => ?_⟩
    obtain ⟨d, e1, g⟩ := q2.giveO fm2
    rw [hK]
    exact ⟨G2, _, ds, d, fm2.sub, .str z, r2, e1, g⟩
  · exact q1.elim
theorem t_mthL {m : Mi} {name : Str} {id : String} {es : List Expr} {apos cpos : Pos} (hK : X.K = P.K) (hm' : ∀ x, recv m x = true → ∃ z, x = PyData.list z) (slot : Slot "list" name id) (hty : typeOf (.builtin id) = pure (.type "method_descriptor")) (hm : MtR X id (rM X.K (mthD m)))
    (ho : PE X o (T P co)) (ha : PA X (e :: es) (TAs P cs)) (h1 : attributeBase o name X.env (eval o X.env) = eval o X.env) (h2 : ((backTo cpos (starEach (e :: es) X.env)).all (fun x => !x.1) && (backToKw cpos (keywordEach [] X.env)).all (fun x => x.1.isSome) && decide ((e :: es).length + ([] : List Keyword).length + (if ([] : List Keyword).isEmpty then 0 else 1) < 30)) = true)
    (h3 : (apos.endLine == cpos.line) = true) (h4 : starEach (e :: es) X.env = (false, eval e X.env) :: starEach es X.env) (h5 : (backTo cpos (starEach es X.env)).any (·.1) = false) : PE X (.Call (.Attribute o name apos) (e :: es) [] cpos) (T P (.mth m co cs)) := by
  refine PEw (pe_bm PySem.F.plainAttrs_list slot hty hm ho ha h1 h2 h3 h4 h5) fun σ H Q ⟨ρ, G, fm, h⟩ => ⟨ρ, G, fm, ?_⟩
  simp only [ev] at h
  refine Out.bind h fun x ρ1 v G1 H1 s1 fm1 r1 q1 => ?_
  split at q1
  · rename_i hr
    obtain ⟨z, rfl⟩ := hm' x hr
    cases r1 with
    | @lst p xs _ p1 p2 =>
    refine ⟨.inl ⟨rfl, xs, by rw [hK]; exact (Same.ls fm1.sub p1).seq⟩, ρ1, G1, fm1, Out.bind q1 fun ds ρ2 vs G2 H2 s2 fm2 r2 q2 => ?_⟩
    obtain ⟨d, e1, g⟩ := q2.giveO fm2
    rw [hK]
    exact ⟨G2, _, ds, d, fm2.sub, .lst (Same.ls s2 p1) (p2.mono s2), r2, e1, g⟩
  · exact q1.elim
theorem errv_of {G : Hp} {c : Str} {f : Option (Str × D)} {cls : Value} {dx : Option Addr} {H : Hp} (h : ErrV ⟨P.K, P.mg, fun _ => False, H, none, fun _ _ => .bad, fun _ _ _ _ => False⟩ c f cls dx G) : ErrV P c f cls dx G := h
/-- a list that nobody holds comes to G -/
theorem fm_put {G H : Hp} {σ : L2.St} {ρ : Ro} {p : Addr} {xs : List V} (fm : P.Fm ρ G σ H) (hp : H p = some (.lst xs)) (gp : G p = none) (zp : ¬ P.Z p) (np : ∀ (i : Nat) (d : D), ρ[i]? = some (some (d, true)) → σ[i]? ≠ some (some (.ref p))) : P.Fm ρ (upd G p (.lst xs)) σ H := by
  have sn : Same G (upd G p (.lst xs)) := same_new gp
  refine ⟨fun b o e => ?_, fm.len, fun i d hi => ?_, fun i d hi => ?_, fm.dis, fun b hb => ?_, fm.at0⟩
  · by_cases hb : b = p
    · subst hb
      rw [upd_same] at e
      rw [← e]
      exact hp
    · rw [upd_ne hb] at e
      exact fm.sub _ _ e
  · obtain ⟨v, q1, q2⟩ := fm.un i d hi
    exact ⟨v, q1, q2.mono sn⟩
  · obtain ⟨a, o, q1, q3, q4, q5, q6⟩ := fm.ow i d hi
    have ne : a ≠ p := fun z => np i d hi (by rw [← z]; exact q1)
    exact ⟨a, o, q1, q3, by rw [upd_ne ne]; exact q4, q5, q6.mono sn⟩
  · obtain ⟨q1, q2, q3⟩ := fm.zg b hb
    have ne : b ≠ p := fun z => zp (by rw [← z]; exact hb)
    exact ⟨by rw [upd_ne ne]; exact q1, q2, q3⟩
/-- what was not there is none of the frame's -/
theorem fm_new {G H : Hp} {σ : L2.St} {ρ : Ro} {p : Addr} (fm : P.Fm ρ G σ H) (hp : H p = none) : ¬ P.Z p ∧ ∀ (i : Nat) (d : D), ρ[i]? = some (some (d, true)) → σ[i]? ≠ some (some (.ref p)) := by
  refine ⟨fun z => ?_, fun i d hi z => ?_⟩
  · obtain ⟨_, q2, q3⟩ := fm.zg p z
    rw [hp] at q2
    exact q3 q2.symm
  · obtain ⟨a, o, q1, q3, _⟩ := fm.ow i d hi
    rw [q1] at z
    cases z
    rw [hp] at q3
    cases q3
theorem np_set {σ : L2.St} {ρ : Ro} {p : Addr} {i : Nat} {d0 : D} {x : D} (h0 : ρ[i]? = some (some (d0, true))) (np : ∀ (i : Nat) (d : D), ρ[i]? = some (some (d, true)) → σ[i]? ≠ some (some (.ref p))) : ∀ (j : Nat) (d : D), (ρ.set i (some (x, true)))[j]? = some (some (d, true)) → σ[j]? ≠ some (some (.ref p)) := fun j d hj => by
  by_cases hij : i = j
  · subst hij
    exact np i _ h0
  · rw [List.getElem?_set_ne hij] at hj
    exact np j d hj
/-- the end of a call that was lent nothing -/
theorem end_call {G H : Hp} {σ : L2.St} {ρ : Ro} {r : Ev.CR} {Q : VK} (fm : P.Fm ρ G σ H) (h : Out P (fun G v d => Rp P.K G v d) G σ (callR r ρ) Q) : EndC P.K P.mg G H none r Q (WE P.W σ) := by
  cases r with
  | ok d d0 =>
    cases d0 with
    | none => exact fun v G' H' s1 s2 st rp _ => h v G' H' s1 (fm_call fm s1 s2 st) rp
    | some e => exact h.elim
  | ow ds d0 =>
    cases d0 with
    | none =>
      intro p xs G' H' s1 s2 st hp gp hp' rp _
      obtain ⟨zp, np⟩ := fm_new fm hp
      exact h (.ref p) (upd G' p (.lst xs)) H' (Same.trans s1 (same_new gp)) (fm_put (fm_call fm s1 s2 st) hp' gp zp np) (.lst (Ls.of upd_same) (rp.mono (same_new gp)))
    | some e => exact h.elim
  | er c f d0 =>
    cases d0 with
    | none => exact fun cls dx G' H' s1 s2 st er _ => h cls dx G' H' s1 (fm_call fm s1 s2 st) er
    | some e => exact h.elim
  | bad => exact h.elim
/-- .. that was lent slot i's list -/
theorem end_lent {G H : Hp} {σ : L2.St} {ρ : Ro} {r : Ev.CR} {Q : VK} {i : Nat} {d0 : D} {a : Addr} (fm : P.Fm ρ G σ H) (hi : ρ[i]? = some (some (d0, true))) (ha : σ[i]? = some (some (.ref a))) (h : Out P (fun G v d => Rp P.K G v d) G σ (cioR i r ρ) Q) :
    EndC P.K P.mg G H (some a) r Q (WE P.W σ) := by
  cases r with
  | ok d d1 =>
    cases d1 with
    | none => exact h.elim
    | some e =>
      intro v G' H' s1 s2 st rp ln
      cases e with
      | list es => exact let ⟨g, ys, q1, q2⟩ := ln; h v G' H' s1 (fm_lent fm hi ha s1 s2 st g q1 q2) rp
      | _ => exact ln.elim
  | ow ds d1 =>
    cases d1 with
    | none => exact h.elim
    | some e =>
      intro p xs G' H' s1 s2 st hp gp hp' rp ln
      obtain ⟨zp, np⟩ := fm_new fm hp
      cases e with
      | list es => exact let ⟨g, ys, q1, q2⟩ := ln; h (.ref p) (upd G' p (.lst xs)) H' (Same.trans s1 (same_new gp)) (fm_put (fm_lent fm hi ha s1 s2 st g q1 q2) hp' gp zp (np_set hi np)) (.lst (Ls.of upd_same) (rp.mono (same_new gp)))
      | _ => exact ln.elim
  | er c f d1 =>
    cases d1 with
    | none => exact h.elim
    | some e =>
      intro cls dx G' H' s1 s2 st er ln
      cases e with
      | list es => exact let ⟨g, ys, q1, q2⟩ := ln; h cls dx G' H' s1 (fm_lent fm hi ha s1 s2 st g q1 q2) er
      | _ => exact ln.elim
  | bad => exact h.elim
variable {k : Nat} {f : Addr} {fd : FuncData} {ps ks : List Str} {x : Str} {p : Pos} {es : List Expr}
/-- a call of a def, by what its end must be -/
def TCa (P : Pm) (x : Str) (perm : List Nat) (cs : List CE) : TE := fun σ H Q => ∃ ρ G, P.Fm ρ G σ H ∧ (match evA P.cal P.b0 cs ρ with
  | .bad => False
  | .er c f ρ' => ∀ cls dx G' H', Same G G' → P.Fm ρ' G' σ H' → ErrV P c f cls dx G' → P.W cls dx σ H'
  | .ok ds ρ1 => ∀ G1 H1, Same G G1 → P.Fm ρ1 G1 σ H1 → ∃ es, permD perm ds = some es ∧ EndC P.K P.mg G1 H1 none (P.cal x es) Q (WE P.W σ))
theorem tca_T {x : Str} {perm : List Nat} {σ : L2.St} {H : Hp} {Q : VK} (h : T P (.call x perm cs) σ H Q) : TCa P x perm cs σ H Q := by
  obtain ⟨ρ, G, fm, h⟩ := h
  refine ⟨ρ, G, fm, ?_⟩
  simp only [ev] at h
  cases hq : evA P.cal P.b0 cs ρ with
  | bad => rw [hq] at h; exact h
  | er c f ρ' => rw [hq] at h; exact h
  | ok ds ρ1 =>
    rw [hq] at h
    intro G1 H1 s1 fm1
    have h1 := Out.mono s1 h
    simp only [Rs.bind_ok] at h1
    cases hp : permD perm ds with
    | none => rw [hp] at h1; exact h1.elim
    | some es => rw [hp] at h1; exact ⟨es, rfl, end_call fm1 h1⟩
theorem perm_range {n : Nat} {ds : List D} (h : ds.length = n) : permD (List.range n) ds = some ds := by
  unfold permD
  subst h
  have key : ∀ (m : Nat) (l : List D), m ≤ l.length → (List.range m).mapM (fun i => l[i]?) = some (l.take m) := by
    intro m l
    induction m with
    | zero => intro _; simp
    | succ m ih =>
      intro hm
      rw [List.range_succ, List.mapM_append, ih (by omega)]
      have : l[m]? = some l[m] := List.getElem?_eq_getElem (by omega)
      simp only [List.mapM_cons, List.mapM_nil, this, Option.bind_eq_bind, Option.bind_some, Option.pure_def]
      rw [List.take_succ, this]
      rfl
  rw [key ds.length ds (Nat.le_refl _), List.take_length]
theorem t_call {n : Nat} (hK : X.K = P.K) (hM : X.mg = P.mg) (F : FnG X.prog X.w X.K X.mg X.base k f fd ps (spD P.K P.mg P.cal x false n)) (hr : Room k X.A) (hg : X.A.guards = some []) (tk : Takes X P.W) (gl : Gl X x) (hm : X.mg x = some (.ref f)) (hk : PySem.W.keepIn X.K (.ref f) = true) (hb : Binds X.K fd ps [])
    (ha : PA X (e :: es) (TAs P cs)) (hn : cs.length = n) (hev : ∀ ρ ds ρ', evA P.cal P.b0 cs ρ = .ok ds ρ' → ds.length = cs.length) (hdb : (x == ("__debug__" : Str)) = false) (he : starEach (e :: es) X.env = (false, eval e X.env) :: starEach es X.env) (hpl : (backTo pos (starEach es X.env)).any (·.1) = false) :
    PE X (.Call (.Name x p) (e :: es) [] pos) (TCa P x (List.range n) cs) := by
  refine PEw (pe_G F hr hg tk gl hm hk hb ha hdb he hpl) fun σ H Q ⟨ρ, G, fm, h⟩ => ⟨ρ, G, fm, ?_⟩
  cases hq : evA P.cal P.b0 cs ρ with
  | bad => rw [hq] at h; exact h.elim
  | er c f ρ' => rw [hq] at h; exact h
  | ok ds ρ1 =>
    rw [hq] at h
    have hl := hev _ _ _ hq
    intro vs G1 H1 s1 fm1 r1
    obtain ⟨es, hp, h1⟩ := h G1 H1 s1 fm1
    rw [perm_range (hl.trans hn)] at hp
    cases hp
    exact ⟨G1, ds, none, by rw [r1.length, hl, hn], fm1.sub, rfl, r1, h1⟩
theorem t_call0 (F : FnG X.prog X.w X.K X.mg X.base k f fd ps (spD P.K P.mg P.cal x false 0)) (hr : Room k X.A) (hg : X.A.guards = some []) (tk : Takes X P.W) (gl : Gl X x) (hm : X.mg x = some (.ref f)) (hk : PySem.W.keepIn X.K (.ref f) = true) (hb : Binds X.K fd ps [])
    (hdb : (x == ("__debug__" : Str)) = false) : PE X (.Call (.Name x p) [] [] pos) (TCa P x [] []) := by
  refine PEw (pe_G0 F hr hg tk gl hm hk hb hdb) fun σ H Q ⟨ρ, G, fm, h⟩ => ?_
  simp only [evA] at h
  obtain ⟨es, hp, h1⟩ := h G H (Same.refl G) fm
  cases hp
  exact ⟨G, [], none, rfl, fm.sub, rfl, .nil, h1⟩
theorem rp_perm {K : PySem.W.Frag} {G : Hp} : ∀ {perm : List Nat} {vs : List V} {ds es : List D}, RpAll K G vs ds → permD perm ds = some es → ∃ zs, perm.mapM (fun i => vs[i]?) = some zs ∧ RpAll K G zs es
  | [], vs, ds, es, r, h => by
    unfold permD at h
    simp only [List.mapM_nil, Option.pure_def, Option.some.injEq] at h ⊢
    subst h
    exact ⟨[], rfl, .nil⟩
  | i :: perm, vs, ds, es, r, h => by
    unfold permD at h
    rw [List.mapM_cons] at h ⊢
    cases hi : ds[i]? with
    | none => rw [hi] at h; cases h
    | some d =>
      rw [hi] at h
      cases hp : perm.mapM (fun i => ds[i]?) with
      | none => rw [hp] at h; cases h
      | some es' =>
        rw [hp] at h
        cases h
        obtain ⟨v, h1, h2⟩ := r.get hi
        obtain ⟨zs, h3, h4⟩ := rp_perm (perm := perm) r hp
        rw [h1, h3]
        exact ⟨v :: zs, rfl, .cons h2 h4⟩
theorem t_pk : ∀ {kws : List Keyword} {cs : List CE}, kws.length = cs.length → (∀ (i : Nat) (kw : Keyword) (c : CE), kws[i]? = some kw → cs[i]? = some c → PE X kw.value (T P c)) → PK X kws (TAs P cs)
  | [], [], _, _ => ⟨fun pos pins s σ H Q I ⟨ρ, G, fm, h⟩ => pk_nil.run pos pins s σ H Q I (h.ret fm .nil)⟩
  | ⟨nm, ex, kp⟩ :: kws, c :: cs, hl, h => ⟨fun pos pins s σ H Q I ⟨ρ, G, fm, hq⟩ => (pk_cons (h 0 _ c rfl rfl) (t_pk (by simpa using hl) fun i kw c h1 h2 => h (i + 1) kw c (by simpa using h1) (by simpa using h2))).run pos pins s σ H Q I ⟨ρ, G, fm, by
    simp only [evA] at hq
    refine Out.bind hq fun x ρ1 v G1 H1 s1 fm1 r1 h1 => ⟨ρ1, G1, fm1, ?_⟩
    refine Out.bind h1 fun xs ρ2 vs G2 H2 s2 fm2 r2 h2 => ?_
    exact h2.ret fm2 (.cons (r1.mono s2) r2)⟩⟩
  | [], _ :: _, hl, _ => by cases hl
  | _ :: _, [], hl, _ => by cases hl
theorem t_callK {n : Nat} {kws : List Keyword} {perm : List Nat} (F : FnG X.prog X.w X.K X.mg X.base k f fd ps (spD P.K P.mg P.cal x false n)) (hr : Room k X.A) (hg : X.A.guards = some []) (tk : Takes X P.W) (gl : Gl X x) (hm : X.mg x = some (.ref f)) (hk : PySem.W.keepIn X.K (.ref f) = true) (hb : KwB X.K fd ps ks perm)
    (ha : PK X kws (TAs P cs)) (hn : perm.length = n) (hc : cs.length = ks.length) (hev : ∀ ρ ds ρ', evA P.cal P.b0 cs ρ = .ok ds ρ' → ds.length = cs.length) (hdb : (x == ("__debug__" : Str)) = false) (hall : (backToKw pos (keywordEach kws X.env)).all (·.1.isSome) = true) (hks : (backToKw pos (keywordEach kws X.env)).filterMap (·.1) = ks)
    (hpl : ((backTo pos (starEach [] X.env)).any (·.1) || (backToKw pos (keywordEach kws X.env)).any (·.1.isNone)) = false) (hlen : kws.length = ks.length) : PE X (.Call (.Name x p) [] kws pos) (TCa P x perm cs) := by
  refine PEw (pe_GK F hr hg tk gl hm hk hb ha hdb hall hks hpl hlen) fun σ H Q ⟨ρ, G, fm, h⟩ => ⟨ρ, G, fm, ?_⟩
  cases hq : evA P.cal P.b0 cs ρ with
  | bad => rw [hq] at h; exact h.elim
  | er c f ρ' => rw [hq] at h; exact h
  | ok ds ρ1 =>
    rw [hq] at h
    have hl := hev _ _ _ hq
    intro vs G1 H1 s1 fm1 r1
    obtain ⟨es, hp, h1⟩ := h G1 H1 s1 fm1
    · obtain ⟨zs, q1, q2⟩ := rp_perm r1 hp
      refine ⟨by rw [r1.length, hl, hc], zs, q1, G1, es, none, ?_, fm1.sub, rfl, q2, h1⟩
      have e1 : ∀ {perm : List Nat} {zs : List V}, perm.mapM (fun i => vs[i]?) = some zs → zs.length = perm.length := by
        intro perm
        induction perm with
        | nil => intro zs h; simp only [List.mapM_nil, Option.pure_def, Option.some.injEq] at h; subst h; rfl
        | cons i perm ih =>
          intro zs h
          rw [List.mapM_cons] at h
          cases hi : vs[i]? with
          | none => rw [hi] at h; cases h
          | some v =>
            rw [hi] at h
            cases hp : perm.mapM (fun i => vs[i]?) with
            | none => rw [hp] at h; cases h
            | some zs' => rw [hp] at h; cases h; simp [ih hp]
      rw [e1 q1, hn]
/-- a call that is lent an owned list, by what its end must be -/
def TCi (P : Pm) (x : Str) (i : Nat) (cs : List CE) : TE := fun σ H Q => ∃ ρ G, P.Fm ρ G σ H ∧ (∃ d0, ρ[i]? = some (some (d0, true))) ∧ (match evA P.cal P.b0 cs ρ with
  | .bad => False
  | .er c f ρ' => ∀ cls dx G' H', Same G G' → P.Fm ρ' G' σ H' → ErrV P c f cls dx G' → P.W cls dx σ H'
  | .ok ds ρ1 => ∀ G1 H1, Same G G1 → P.Fm ρ1 G1 σ H1 → ∃ es, ρ1[i]? = some (some (.list es, true)) ∧ ∀ a, σ[i]? = some (some (.ref a)) → EndC P.K P.mg G1 H1 (some a) (P.cal x (.list es :: ds)) Q (WE P.W σ))
theorem tci_T {x : Str} {i : Nat} {σ : L2.St} {H : Hp} {Q : VK} (h : T P (.cio x i cs) σ H Q) : TCi P x i cs σ H Q := by
  obtain ⟨ρ, G, fm, h⟩ := h
  simp only [ev] at h
  cases hr0 : ρ[i]? with
  | none => rw [hr0] at h; exact h.elim
  | some o =>
  match o, hr0, h with
  | none, hr0, h => rw [hr0] at h; exact h.elim
  | some (d0, false), hr0, h => rw [hr0] at h; exact h.elim
  | some (d0, true), hr0, h =>
    rw [hr0] at h
    refine ⟨ρ, G, fm, ⟨d0, hr0⟩, ?_⟩
    cases hq : evA P.cal P.b0 cs ρ with
    | bad => rw [hq] at h; exact h.elim
    | er c f ρ' => rw [hq] at h; exact h
    | ok ds ρ1 =>
      rw [hq] at h
      intro G1 H1 s1 fm1
      have h1 := Out.mono s1 h
      simp only [Rs.bind_ok] at h1
      cases hr1 : ρ1[i]? with
      | none => rw [hr1] at h1; exact h1.elim
      | some o1 =>
      match o1, hr1, h1 with
      | none, hr1, h1 => rw [hr1] at h1; exact h1.elim
      | some (d1, false), hr1, h1 => rw [hr1] at h1; cases d1 <;> exact h1.elim
      | some (.list es, true), hr1, h1 => rw [hr1] at h1; exact ⟨es, rfl, fun a ha => end_lent fm1 hr1 ha h1⟩
      | some (.none, true), hr1, h1 => rw [hr1] at h1; exact h1.elim
      | some (.bool _, true), hr1, h1 => rw [hr1] at h1; exact h1.elim
      | some (.int _, true), hr1, h1 => rw [hr1] at h1; exact h1.elim
      | some (.str _, true), hr1, h1 => rw [hr1] at h1; exact h1.elim
      | some (.tuple _, true), hr1, h1 => rw [hr1] at h1; exact h1.elim
      | some (.dict _, true), hr1, h1 => rw [hr1] at h1; exact h1.elim
theorem t_cio {n i : Nat} {y : Str} {py : Pos} (F : FnG X.prog X.w X.K X.mg X.base k f fd ps (spD P.K P.mg P.cal x true n)) (hr : Room k X.A) (hg : X.A.guards = some []) (tk : Takes X P.W) (gl : Gl X x) (hm : X.mg x = some (.ref f)) (hk : PySem.W.keepIn X.K (.ref f) = true) (hb : Binds X.K fd ps [])
    (hN : X.N[i]? = some y) (hv : Vis X.env.scope y) (hd : (y == ("__debug__" : Str)) = false) (hcd : (y == ("__classdict__" : Str)) = false)
    (ha : PA X es (TAs P cs)) (hn : cs.length + 1 = n) (hev : ∀ ρ ds ρ', evA P.cal P.b0 cs ρ = .ok ds ρ' → ds.length = cs.length) (hdb : (x == ("__debug__" : Str)) = false)
    (he : starEach (.Name y py :: es) X.env = (false, eval (.Name y py) X.env) :: starEach es X.env) (hpl : (backTo pos (starEach es X.env)).any (·.1) = false) :
    PE X (.Call (.Name x p) (.Name y py :: es) [] pos) (TCi P x i cs) := by
  refine PEw (pe_G F hr hg tk gl hm hk hb (pa_cons (pe_var hN hv hd hcd) ha he) hdb he hpl) fun σ H Q ⟨ρ, G, fm, ⟨d0, hr0⟩, h⟩ => ?_
  obtain ⟨a, o0, q1, _⟩ := fm.ow i d0 hr0
  refine ⟨_, q1, ρ, G, fm, ?_⟩
  cases hq : evA P.cal P.b0 cs ρ with
  | bad => rw [hq] at h; exact h.elim
  | er c f ρ' => rw [hq] at h; exact h
  | ok ds ρ1 =>
    rw [hq] at h
    have hl := hev _ _ _ hq
    intro vs G1 H1 s1 fm1 r1
    obtain ⟨d1, hr1, h1⟩ := h G1 H1 s1 fm1
    obtain ⟨a', xs', p1, p3, p4, p5, p6⟩ := fm1.owL hr1
    rw [q1] at p1
    cases p1
    refine ⟨G1, .list d1 :: ds, some a, ?_, fm1.sub, rfl, ⟨vs, xs', d1, ds, rfl, rfl, p3, p4, p6, r1⟩, h1 a q1⟩
    rw [List.length_cons, r1.length, hl, hn]
end
end Ev

set_option Elab.async false
set_option linter.all false
set_option maxRecDepth 100000
set_option maxHeartbeats 2000000
namespace Ev
open PySem PySem.Spec PyProof.Rows L2

/-! ## what is walked -/
def Wlk (K : PySem.W.Frag) (J : It) (G : Hp) (ds : List D) : Prop := ∀ G1 H1, Same G G1 → Same G1 H1 →
  (∀ (i : Nat) (d : D), ds[i]? = some d → J.go i H1 ∧ ∀ x H2, J.yld i H1 x H2 → ∃ G2, Ext G1 H1 G2 H2 ∧ Rp K G2 x d) ∧ J.stop ds.length H1
def TIt (P : Pm) (kind : Nat) (cs : List CE) : TI := fun σ H R => ∃ ρ G, P.Fm ρ G σ H ∧ Out P (fun G J xs => Wlk P.K J G xs) G σ ((evA P.cal P.b0 cs ρ).bind fun ds ρ1 => ofO (itemsD kind ds) ρ1) R
theorem PIw {X : Cx} {tg e : Expr} {t t' : TI} (h : PI X tg e t) (k : ∀ σ H Q, t' σ H Q → t σ H Q) : PI X tg e t' := ⟨fun pins s σ H Q I q => h.run pins s σ H Q I (k _ _ _ q)⟩

section
variable {K : PySem.W.Frag} {G : Hp}
theorem wlk_list {a : Addr} {xs : List V} {ds : List D} (h : Ls K G a xs) (r : RpAll K G xs ds) (inj : ∀ {G1 H1 : Hp} {ys : List V}, Same G G1 → Same G1 H1 → SqL K H1 a ys → SqL K H1 a xs → ys = xs) : Wlk K (Itl K a) G ds := by
  intro G1 H1 s1 s2
  have hs : SqL K H1 a xs := (Same.ls s2 (Same.ls s1 h)).seq
  refine ⟨fun i d hd => ?_, ⟨xs, hs, by rw [r.length]; exact Nat.le_refl _⟩⟩
  obtain ⟨v, hv, rv⟩ := r.get hd
  refine ⟨⟨xs, v, hs, hv⟩, fun x H2 hy => ?_⟩
  obtain ⟨rfl, hy⟩ := hy
  have := hy xs hs
  rw [hv] at this
  cases this
  exact ⟨G1, Ext.refl s2, rv.mono s1⟩
theorem wlk_tup {a : Addr} {xs : List V} {ds : List D} (h : SqT K G a xs) (r : RpAll K G xs ds) : Wlk K (Itt K a) G ds := by
  intro G1 H1 s1 s2
  have hs : SqT K H1 a xs := Same.seqT s2 (Same.seqT s1 h)
  refine ⟨fun i d hd => ?_, ⟨xs, hs, by rw [r.length]; exact Nat.le_refl _⟩⟩
  obtain ⟨v, hv, rv⟩ := r.get hd
  refine ⟨⟨xs, v, hs, hv⟩, fun x H2 hy => ?_⟩
  obtain ⟨rfl, hy⟩ := hy
  have := hy xs hs
  rw [hv] at this
  cases this
  exact ⟨G1, Ext.refl s2, rv.mono s1⟩
theorem wlk_str {z : Str} : Wlk K (Its z) G (z.cps.toList.map oneS) := by
  intro G1 H1 s1 s2
  refine ⟨fun i d hd => ?_, ?_⟩
  · rw [List.getElem?_map] at hd
    cases hc : z.cps.toList[i]? with
    | none => rw [hc] at hd; cases hd
    | some c =>
      rw [hc] at hd
      cases hd
      have hc' : z.cps[i]? = some c := by simpa using hc
      refine ⟨(Array.getElem?_eq_some_iff.mp hc').1, fun x H2 hy => ?_⟩
      obtain ⟨rfl, c', h1, rfl⟩ := hy
      rw [hc'] at h1
      cases h1
      exact ⟨G1, Ext.refl s2, .str _⟩
  · show z.cps.size ≤ _
    simp
theorem wlk_rng {lo hi : Int} : Wlk K (Itr lo (hi - lo).toNat) G (rngL lo hi) := by
  intro G1 H1 s1 s2
  unfold rngL
  refine ⟨fun i d hd => ?_, by show (hi - lo).toNat ≤ _; simp⟩
  rw [List.getElem?_map] at hd
  cases hc : (List.range (hi - lo).toNat)[i]? with
  | none => rw [hc] at hd; cases hd
  | some c =>
    rw [hc] at hd
    cases hd
    obtain ⟨h1, h2⟩ := List.getElem?_eq_some_iff.mp hc
    rw [List.getElem_range] at h2
    subst h2
    rw [List.length_range] at h1
    refine ⟨h1, fun x H2 hy => ?_⟩
    obtain ⟨rfl, rfl⟩ := hy
    exact ⟨G1, Ext.refl s2, .int _⟩
theorem enumL_get : ∀ {ds : List D} {k i : Nat} {d : D}, (enumL ds k)[i]? = some d → ∃ e, ds[i]? = some e ∧ d = .tuple [.int ((k + i : Nat) : Int), e]
  | [], k, i, d, h => by simp [enumL] at h
  | x :: xs, k, 0, d, h => by
    simp only [enumL, List.getElem?_cons_zero, Option.some.injEq] at h
    exact ⟨x, rfl, by rw [← h]; rfl⟩
  | x :: xs, k, i + 1, d, h => by
    simp only [enumL, List.getElem?_cons_succ] at h
    obtain ⟨e, h1, h2⟩ := enumL_get h
    exact ⟨e, by simpa using h1, by rw [h2, show k + 1 + i = k + (i + 1) by omega]⟩
theorem enumL_length : ∀ (ds : List D) (k : Nat), (enumL ds k).length = ds.length
  | [], _ => rfl
  | x :: xs, k => by simp [enumL, enumL_length xs (k + 1)]
theorem zipL_get : ∀ {ds es : List D} {i : Nat} {d : D}, (zipL ds es)[i]? = some d → ∃ a b, ds[i]? = some a ∧ es[i]? = some b ∧ d = .tuple [a, b]
  | [], es, i, d, h => by simp [zipL] at h
  | x :: xs, [], i, d, h => by simp [zipL] at h
  | x :: xs, y :: ys, 0, d, h => by
    simp only [zipL, List.getElem?_cons_zero, Option.some.injEq] at h
    exact ⟨x, y, rfl, rfl, h.symm⟩
  | x :: xs, y :: ys, i + 1, d, h => by
    simp only [zipL, List.getElem?_cons_succ] at h
    obtain ⟨a, b, h1, h2, h3⟩ := zipL_get h
    exact ⟨a, b, by simpa using h1, by simpa using h2, h3⟩
theorem zipL_length : ∀ (ds es : List D), (zipL ds es).length = min ds.length es.length
  | [], es => by simp [zipL]
  | x :: xs, [] => by simp [zipL]
  | x :: xs, y :: ys => by
    simp only [zipL, List.length_cons, zipL_length xs ys]
    omega
theorem evA_len {cal : Cal} {b0 : Bool} : ∀ {cs : List CE} {ρ ρ' : Ro} {ds : List D}, evA cal b0 cs ρ = .ok ds ρ' → ds.length = cs.length
  | [], ρ, ρ', ds, h => by
    simp only [evA, Rs.ok.injEq] at h
    rw [← h.1]
    rfl
  | c :: cs, ρ, ρ', ds, h => by
    simp only [evA] at h
    cases hq : ev cal b0 c ρ with
    | bad => rw [hq] at h; cases h
    | er _ _ _ => rw [hq] at h; cases h
    | ok d ρ1 =>
      rw [hq] at h
      simp only [Rs.bind_ok] at h
      cases hr : evA cal b0 cs ρ1 with
      | bad => rw [hr] at h; cases h
      | er _ _ _ => rw [hr] at h; cases h
      | ok ds' ρ2 =>
        rw [hr] at h
        simp only [Rs.bind_ok, Rs.ok.injEq] at h
        rw [← h.1, List.length_cons, List.length_cons, evA_len hr]
theorem wlk_enum {a : Addr} {xs : List V} {ds : List D} (h : Ls K G a xs) (r : RpAll K G xs ds) : Wlk K (Ite K a) G (enumL ds 0) := by
  intro G1 H1 s1 s2
  have hs : SqL K H1 a xs := (Same.ls s2 (Same.ls s1 h)).seq
  refine ⟨fun i d hd => ?_, ⟨xs, hs, by rw [enumL_length, r.length]; exact Nat.le_refl _⟩⟩
  obtain ⟨e, he, rfl⟩ := enumL_get hd
  obtain ⟨v, hv, rv⟩ := r.get he
  refine ⟨⟨xs, v, hs, hv⟩, fun x H2 hy => ?_⟩
  obtain ⟨p, y, rfl, hp, rfl, hy⟩ := hy
  have := hy xs hs
  rw [hv] at this
  cases this
  refine ⟨_, Ext.new s2 hp, .tup (SqT.of upd_same) ?_⟩
  rw [Nat.zero_add]
  exact .cons (.int _) (.cons ((rv.mono s1).mono (same_new (Same.none s2 hp))) .nil)
theorem wlk_zip {a b : Addr} {xs ys : List V} {ds es : List D} (h : Ls K G a xs) (r : RpAll K G xs ds) (h' : Ls K G b ys) (r' : RpAll K G ys es) : Wlk K (Itz K a b) G (zipL ds es) := by
  intro G1 H1 s1 s2
  have hs : SqL K H1 a xs := (Same.ls s2 (Same.ls s1 h)).seq
  have hs' : SqL K H1 b ys := (Same.ls s2 (Same.ls s1 h')).seq
  refine ⟨fun i d hd => ?_, ⟨xs, ys, hs, hs', by rw [zipL_length, r.length, r'.length]; omega⟩⟩
  obtain ⟨d1, d2, he, he', rfl⟩ := zipL_get hd
  obtain ⟨v, hv, rv⟩ := r.get he
  obtain ⟨v', hv', rv'⟩ := r'.get he'
  refine ⟨⟨xs, ys, v, v', hs, hs', hv, hv'⟩, fun x H2 hy => ?_⟩
  obtain ⟨p, y, y', rfl, hp, rfl, hy, hy'⟩ := hy
  have e1 := hy xs hs
  have e2 := hy' ys hs'
  rw [hv] at e1
  rw [hv'] at e2
  cases e1
  cases e2
  have sn := same_new (o := HO.tup [v, v']) (Same.none s2 hp)
  exact ⟨_, Ext.new s2 hp, .tup (SqT.of upd_same) (.cons ((rv.mono s1).mono sn) (.cons ((rv'.mono s1).mono sn) .nil))⟩
end
section
variable {P : Pm} {X : Cx} {a b e tg : Expr} {ca cb ce : CE} {cs : List CE} {pos p : Pos}
theorem ti_list (hK : X.K = P.K) (ha : PE X a (T P ca)) : PI X tg a (TIt P 0 [ca]) := by
  refine PIw (pi_list ha) fun σ H R ⟨ρ, G, fm, h⟩ => ⟨ρ, G, fm, ?_⟩
  simp only [evA, Rs.assoc] at h
  refine Out.bind h fun x ρ1 v G1 H1 s1 fm1 r1 h1 => ?_
  simp only [Rs.bind_ok] at h1
  cases r1 with
  | @lst p xs ds q1 q2 =>
    rw [hK]
    refine ⟨p, rfl, ⟨xs, (Same.ls fm1.sub q1).seq⟩, h1.ret fm1 ?_⟩
    intro G2 H2 s2 s3
    have hs : SqL P.K H2 p xs := (Same.ls s3 (Same.ls s2 q1)).seq
    refine ⟨fun i d hd => ?_, ⟨xs, hs, by rw [q2.length]; exact Nat.le_refl _⟩⟩
    obtain ⟨v, hv, rv⟩ := q2.get hd
    refine ⟨⟨xs, v, hs, hv⟩, fun x H3 hy => ?_⟩
    obtain ⟨rfl, hy⟩ := hy
    have := hy xs hs
    rw [hv] at this
    cases this
    exact ⟨G2, Ext.refl s3, rv.mono s2⟩
  | _ => exact h1.elim
theorem ti_tup (hK : X.K = P.K) (ha : PE X a (T P ca)) : PI X tg a (TIt P 4 [ca]) := by
  refine PIw (pi_tup ha) fun σ H R ⟨ρ, G, fm, h⟩ => ⟨ρ, G, fm, ?_⟩
  simp only [evA, Rs.assoc] at h
  refine Out.bind h fun x ρ1 v G1 H1 s1 fm1 r1 h1 => ?_
  simp only [Rs.bind_ok] at h1
  cases r1 with
  | @tup p xs ds q1 q2 =>
    rw [hK]
    exact ⟨p, rfl, ⟨xs, Same.seqT fm1.sub q1⟩, h1.ret fm1 (wlk_tup q1 q2)⟩
  | _ => exact h1.elim
theorem ti_str (ha : PE X a (T P ca)) : PI X tg a (TIt P 5 [ca]) := by
  refine PIw (pi_str ha) fun σ H R ⟨ρ, G, fm, h⟩ => ⟨ρ, G, fm, ?_⟩
  simp only [evA, Rs.assoc] at h
  refine Out.bind h fun x ρ1 v G1 H1 s1 fm1 r1 h1 => ?_
  simp only [Rs.bind_ok] at h1
  cases r1 with
  | str z => exact ⟨z, rfl, h1.ret fm1 wlk_str⟩
  | _ => exact h1.elim
/-! ranges of any ints -/
theorem turn_long {P : Program} {w : World} {K : PySem.W.Frag} {tg : Expr} (it : Addr) (lo : Int) (n : Nat) : Turn P w K tg (Itr lo n) [it] it (fun i h => IsLongIter h it (lo + (i : Nat) * 1) ((n : Int) - (i : Nat)) 1) where
  mem := by simp
  obj := fun i h st b hb => by
    have e : b = it := by simpa using hb
    subst e
    exact ⟨_, st, fun v z => by
      have z' : Data.fields _ = Data.cell v := z
      cases z'⟩
  keep := fun i h h' st k => k it (by simp) _ st
  item := by
    intro X hP hw hK hc i pins s σ H E I hf st hg
    subst hP hw hK
    obtain ⟨f0, f1, f2, f3, f4, f5⟩ := hf it (by simp)
    have W := Walks.longrange (prog := X.prog) (w := X.w) (I.ok.hd hc) it lo 1 n
    refine W.item i s _ _ hg st fun v h' tk hv st' kk => ?_
    obtain ⟨t, rfl⟩ := hv
    have I1 : L2.Inv X pins σ H { s with heap := h', toks := tk } := I.turned (fun b o hb e => kk b o (by simpa using hb) e) f0 f1 f3 f4 f5
    refine ⟨_, rfl, go_of (s := { s with heap := h', toks := tk }) (n := "longrange_iterator") st' rfl rfl (by decide) ⟨.int (lo + i), H, I1, ⟨t, ?_⟩, ⟨rfl, rfl⟩, st', fun b hb => (hf b hb).1⟩⟩
    rw [Int.mul_one]
  done := by
    intro X hP hw hK hc i pins s σ H E I hf st hg
    subst hP hw hK
    obtain ⟨f0, f1, f2, f3, f4, f5⟩ := hf it (by simp)
    exact wpAny_pyNext_long_end (I.ok.hd hc) st (by have : n ≤ i := hg; omega) fun h' eb => ⟨rfl, I.turned (t' := s.toks) (fun b o hb e => eb b o hb e) f0 f1 f3 f4 f5⟩
  self := fun _ _ _ _ _ st h => wpAny_pyIter_longiter st h
theorem range_itL {X : Cx} {tg : Expr} {pins : List (Addr × Obj)} {σ : L2.St} {H : Hp} {s : Shared} {R : It → Hp → Prop} {E : Value → Shared → Prop} {lo hi : Int} {t u v : Tok} {tk : Nat} (I : L2.Inv X pins σ H s)
    (q : R (Itr lo (hi - lo).toNat) H) : wpAny (model X.prog X.w) X.A (pyIter (.ref s.heap.objs.size)) (PIE X pins σ tg R) E { s with heap := s.heap.push { cls := .type "range", data := .fields #[.int lo t, .int hi u, .int 1 v] }, toks := tk } := by
  have I1 : L2.Inv X pins σ H { s with heap := s.heap.push { cls := .type "range", data := .fields #[.int lo t, .int hi u, .int 1 v] }, toks := tk } := I.kept fun b o e => Heap.get?_push_of_some _ e
  have e1 : lo + ((0 : Nat) : Int) * 1 = lo := by simp
  have e2 : (((hi - lo).toNat : Nat) : Int) - ((0 : Nat) : Int) = Builtin.Range.rangeSize lo hi 1 := by rw [rangeSize_one]; split <;> omega
  cases hs : Builtin.Range.small lo hi 1 with
  | true =>
    refine wpAny_pyIter_range (IsRange.new ..) hs ?_
    refine ⟨(s.heap.push { cls := .type "range", data := .fields #[.int lo t, .int hi u, .int 1 v] }).objs.size, [(s.heap.push { cls := .type "range", data := .fields #[.int lo t, .int hi u, .int 1 v] }).objs.size], _, _, H, rfl,
      I1.kept (t' := tk) fun b o e => Heap.get?_push_of_some _ e, turn_range _ lo (hi - lo).toNat, ?_, fun b hb => ?_, q⟩
    · show IsRangeIter _ _ (lo + ((0 : Nat) : Int) * 1) ((((hi - lo).toNat : Nat) : Int) - ((0 : Nat) : Int)) 1
      rw [e1, e2]
      exact Heap.get?_push_size _ rfl
    · have e : b = (s.heap.push { cls := .type "range", data := .fields #[.int lo t, .int hi u, .int 1 v] }).objs.size := by simpa using hb
      subst e
      exact I1.fpOk (Nat.le_refl _) (I1.hok.fresh (Nat.le_refl _))
  | false =>
    refine wpAny_pyIter_longrange (IsRange.new ..) hs ?_
    refine ⟨(s.heap.push { cls := .type "range", data := .fields #[.int lo t, .int hi u, .int 1 v] }).objs.size, [(s.heap.push { cls := .type "range", data := .fields #[.int lo t, .int hi u, .int 1 v] }).objs.size], _, _, H, rfl,
      I1.kept (t' := tk) fun b o e => Heap.get?_push_of_some _ e, turn_long _ lo (hi - lo).toNat, ?_, fun b hb => ?_, q⟩
    · show IsLongIter _ _ (lo + ((0 : Nat) : Int) * 1) ((((hi - lo).toNat : Nat) : Int) - ((0 : Nat) : Int)) 1
      rw [e1, e2]
      exact Heap.get?_push_size _ rfl
    · have e : b = (s.heap.push { cls := .type "range", data := .fields #[.int lo t, .int hi u, .int 1 v] }).objs.size := by simpa using hb
      subst e
      exact I1.fpOk (Nat.le_refl _) (I1.hok.fresh (Nat.le_refl _))
def iRngL1 (ta : TA) : TI := fun σ H R => ta σ H fun vs H1 => ∃ j : Int, vs = [.int j] ∧ R (Itr 0 j.toNat) H1
def iRngL2 (ta : TA) : TI := fun σ H R => ta σ H fun vs H1 => ∃ i j : Int, vs = [.int i, .int j] ∧ R (Itr i (j - i).toNat) H1
theorem pi_rangeL1 {X : Cx} {tg a : Expr} {ta : TA} {p pos : Pos} (hg : Gl X "range") (hm : X.mg "range" = none) (ha : PA X [a] ta) (hs : starEach [a] X.env = [(false, eval a X.env)]) : PI X tg (.Call (.Name "range" p) [a] [] pos) (iRngL1 ta) := by
  refine ⟨fun pins s σ H R I h => ?_⟩
  refine Call_ (ld_blt I hg hm boot_range (PyProof.Rows.callWith_type1 (thn (ha.run pos pins s σ H _ I h) fun us s1 ⟨vs, H1, I1, r1, q1⟩ => ?_) hs rfl))
  obtain ⟨j, e, q⟩ := q1
  subst e
  cases r1 with
  | cons r rr =>
    cases rr
    obtain ⟨t, rfl⟩ := r
    exact call_range_1 (range_itL I1 (by simpa using q))
theorem pi_rangeL2 {X : Cx} {tg a b : Expr} {ta : TA} {p pos : Pos} (hg : Gl X "range") (hm : X.mg "range" = none) (ha : PA X [a, b] ta) (hs : starEach [a, b] X.env = [(false, eval a X.env), (false, eval b X.env)]) (hs2 : starEach [b] X.env = [(false, eval b X.env)]) :
    PI X tg (.Call (.Name "range" p) [a, b] [] pos) (iRngL2 ta) := by
  refine ⟨fun pins s σ H R I h => ?_⟩
  refine Call_ (ld_blt I hg hm boot_range (PyProof.Rows.callWith_type1 (thn (ha.run pos pins s σ H _ I h) fun us s1 ⟨vs, H1, I1, r1, q1⟩ => ?_) (by rw [hs, hs2]) (by rw [hs2]; rfl)))
  obtain ⟨i, j, e, q⟩ := q1
  subst e
  cases r1 with
  | cons r rr =>
    cases rr with
    | cons r' rr =>
      cases rr
      obtain ⟨t, rfl⟩ := r
      obtain ⟨t', rfl⟩ := r'
      exact call_range_2 (range_itL I1 q)
theorem ti_rng1 (gl : Gl X "range") (hm : X.mg "range" = none) (ha : PA X [a] (TAs P cs)) (hs : starEach [a] X.env = [(false, eval a X.env)]) (hc : cs.length = 1) (hev : ∀ ρ ds ρ', evA P.cal P.b0 cs ρ = .ok ds ρ' → ds.length = cs.length) : PI X tg (.Call (.Name "range" p) [a] [] pos) (TIt P 1 cs) := by
  refine PIw (pi_rangeL1 gl hm ha hs) fun σ H R ⟨ρ, G, fm, h⟩ => ⟨ρ, G, fm, ?_⟩
  cases hq : evA P.cal P.b0 cs ρ with
  | bad => rw [hq] at h; exact h.elim
  | er c f ρ' => rw [hq] at h; exact h
  | ok ds ρ1 =>
    have hl := hev _ _ _ hq
    rw [hq] at h
    intro vs G1 H1 s1 fm1 r1
    have h1 := Out.mono s1 h
    simp only [Rs.bind_ok] at h1
    match ds, r1, h1, hl with
    | [d], .cons r rr, h1, _ =>
      cases rr
      cases r with
      | int n =>
        have h2 : Out P (fun G J xs => Wlk P.K J G xs) G1 σ (ofO (some (rngL 0 n)) ρ1) R := h1
        refine ⟨n, rfl, Out.ret h2 fm1 ?_⟩
        have := @wlk_rng P.K G1 0 n
        rwa [Int.sub_zero] at this
      | _ => exact h1.elim
    | [], _, _, hl => rw [hc] at hl; cases hl
    | _ :: _ :: _, _, _, hl => rw [hc] at hl; simp at hl
theorem ti_rng2 (gl : Gl X "range") (hm : X.mg "range" = none) (ha : PA X [a, b] (TAs P cs)) (hs : starEach [a, b] X.env = [(false, eval a X.env), (false, eval b X.env)]) (hs2 : starEach [b] X.env = [(false, eval b X.env)]) (hc : cs.length = 2)
    (hev : ∀ ρ ds ρ', evA P.cal P.b0 cs ρ = .ok ds ρ' → ds.length = cs.length) : PI X tg (.Call (.Name "range" p) [a, b] [] pos) (TIt P 1 cs) := by
  refine PIw (pi_rangeL2 gl hm ha hs hs2) fun σ H R ⟨ρ, G, fm, h⟩ => ⟨ρ, G, fm, ?_⟩
  cases hq : evA P.cal P.b0 cs ρ with
  | bad => rw [hq] at h; exact h.elim
  | er c f ρ' => rw [hq] at h; exact h
  | ok ds ρ1 =>
    have hl := hev _ _ _ hq
    rw [hq] at h
    intro vs G1 H1 s1 fm1 r1
    have h1 := Out.mono s1 h
    simp only [Rs.bind_ok] at h1
    match ds, r1, h1, hl with
    | [d, d'], .cons r (.cons r' rr), h1, _ =>
      cases rr
      cases r with
      | int n =>
        cases r' with
        | int m =>
          have h2 : Out P (fun G J xs => Wlk P.K J G xs) G1 σ (ofO (some (rngL n m)) ρ1) R := h1
          exact ⟨n, m, rfl, Out.ret h2 fm1 wlk_rng⟩
        | _ => exact h1.elim
      | _ => cases r' <;> exact h1.elim
    | [], _, _, hl => rw [hc] at hl; cases hl
    | [_], _, _, hl => rw [hc] at hl; simp at hl
    | _ :: _ :: _ :: _, _, _, hl => rw [hc] at hl; simp at hl
theorem ti_enum {elts : List Expr} {kk : Nat} {tpos : Pos} (hK : X.K = P.K) (gl : Gl X "enumerate") (hm : X.mg "enumerate" = none) (ha : PE X a (T P ca)) (hs : starEach [a] X.env = [(false, eval a X.env)]) :
    PI X (.Tuple elts kk tpos) (.Call (.Name "enumerate" p) [a] [] pos) (TIt P 2 [ca]) := by
  refine PIw (pi_enum gl hm (ta_cons ha ta_nil hs) hs) fun σ H R ⟨ρ, G, fm, h⟩ => ⟨ρ, G, fm, ?_⟩
  simp only [evA, Rs.assoc] at h ⊢
  cases hq : ev P.cal P.b0 ca ρ with
  | bad => rw [hq] at h; exact h.elim
  | er c f ρ' => rw [hq] at h; exact h
  | ok d ρ1 =>
    rw [hq] at h
    intro vs G1 H1 s1 fm1 r1
    have h1 := Out.mono s1 h
    simp only [Rs.bind_ok] at h1
    cases r1 with
    | cons r rr =>
      cases rr
      cases r with
      | @lst q xs ds q1 q2 =>
        rw [hK]
        exact ⟨q, xs, rfl, (Same.ls fm1.sub q1).seq, Out.ret h1 fm1 (wlk_enum q1 q2)⟩
      | _ => exact h1.elim
theorem ti_zip {elts : List Expr} {kk : Nat} {tpos : Pos} (hK : X.K = P.K) (gl : Gl X "zip") (hm : X.mg "zip" = none) (ha : PE X a (T P ca)) (hb : PE X b (T P cb)) (hs : starEach [a, b] X.env = (false, eval a X.env) :: starEach [b] X.env) (hs2 : starEach [b] X.env = [(false, eval b X.env)])
    (hpl : (backTo pos (starEach [b] X.env)).any (·.1) = false) : PI X (.Tuple elts kk tpos) (.Call (.Name "zip" p) [a, b] [] pos) (TIt P 3 [ca, cb]) := by
  refine PIw (pi_zip gl hm (ta_cons ha (ta_cons hb ta_nil hs2) hs) hs hpl) fun σ H R ⟨ρ, G, fm, h⟩ => ⟨ρ, G, fm, ?_⟩
  cases hq : evA P.cal P.b0 [ca, cb] ρ with
  | bad => rw [hq] at h; exact h.elim
  | er c f ρ' => rw [hq] at h; exact h
  | ok ds ρ1 =>
    rw [hq] at h
    intro vs G1 H1 s1 fm1 r1
    have h1 := Out.mono s1 h
    simp only [Rs.bind_ok] at h1
    match ds, r1, h1 with
    | [d, d'], .cons r (.cons r' rr), h1 =>
      cases rr
      cases r with
      | @lst q xs ds q1 q2 =>
        cases r' with
        | @lst q' xs' ds' q1' q2' =>
          rw [hK]
          exact ⟨q, q', xs, xs', rfl, (Same.ls fm1.sub q1).seq, (Same.ls fm1.sub q1').seq, Out.ret h1 fm1 (wlk_zip q1 q2 q1' q2')⟩
        | _ => exact h1.elim
      | _ => cases r' <;> exact h1.elim
    | [], _, _ => have := evA_len hq; cases this
    | [_], _, _ => have := evA_len hq; cases this
    | _ :: _ :: _ :: _, _, _ => have := evA_len hq; cases this
end
end Ev

set_option Elab.async false
set_option linter.all false
set_option maxRecDepth 100000
set_option maxHeartbeats 2000000
namespace Ev
open PySem PySem.Spec PyProof.Rows L2

/-! ## targets -/
theorem wipe_set {σ : L2.St} {i : Nat} {x : Option V} : ∀ {vs : List Nat}, i ∈ vs → wipe (σ.set i x) vs = wipe σ vs
  | [], h => by cases h
  | v :: vs, h => by
    show (wipe (σ.set i x) vs).set v none = (wipe σ vs).set v none
    by_cases hv : i ∈ vs
    · rw [wipe_set hv]
    · have e : i = v := by
        rcases List.mem_cons.mp h with e | e
        · exact e
        · exact absurd e hv
      subst e
      have key : ∀ (us : List Nat), i ∉ us → wipe (σ.set i x) us = (wipe σ us).set i x := by
        intro us
        induction us with
        | nil => intro _; rfl
        | cons u us ih =>
          intro hu
          show (wipe (σ.set i x) us).set u none = ((wipe σ us).set u none).set i x
          rw [ih (fun z => hu (List.mem_cons_of_mem _ z)), List.set_comm]
          exact fun z => hu (by rw [z]; exact List.mem_cons_self)
      rw [key vs hv, List.set_set]
theorem wipe_get {σ : L2.St} {j : Nat} : ∀ {vs : List Nat}, j ∈ vs → (wipe σ vs)[j]? = if j < σ.length then some none else none
  | [], h => by cases h
  | v :: vs, h => by
    show ((wipe σ vs).set v none)[j]? = _
    have hl := wipe_length σ vs
    by_cases hv : v = j
    · subst hv
      by_cases hj : v < σ.length
      · rw [List.getElem?_set_self (by rw [hl]; exact hj), if_pos hj]
      · rw [List.getElem?_eq_none (by rw [List.length_set, hl]; omega), if_neg hj]
    · rw [List.getElem?_set_ne hv]
      rcases List.mem_cons.mp h with e | e
      · exact absurd e.symm hv
      · exact wipe_get e
theorem wipe_wipe {σ : L2.St} (vs : List Nat) : wipe (wipe σ vs) vs = wipe σ vs := by
  apply List.ext_getElem?
  intro j
  by_cases h : j ∈ vs
  · rw [wipe_get h, wipe_get h, wipe_length]
  · rw [wipe_out h]
theorem wipeR_length (ρ : Ro) : ∀ vs : List Nat, (wipeR ρ vs).length = ρ.length
  | [] => rfl
  | v :: vs => by show ((wipeR ρ vs).set v none).length = _; rw [List.length_set, wipeR_length ρ vs]
theorem wipeR_out {ρ : Ro} {j : Nat} : ∀ {vs : List Nat}, j ∉ vs → (wipeR ρ vs)[j]? = ρ[j]?
  | [], _ => rfl
  | v :: vs, h => by
    show ((wipeR ρ vs).set v none)[j]? = _
    rw [List.getElem?_set_ne (fun z => h (by rw [z]; exact List.mem_cons_self))]
    exact wipeR_out fun z => h (List.mem_cons_of_mem _ z)
theorem wipeR_in {ρ : Ro} {j : Nat} {x : D × Bool} : ∀ {vs : List Nat}, j ∈ vs → (wipeR ρ vs)[j]? ≠ some (some x)
  | [], h => by cases h
  | v :: vs, h => by
    show ((wipeR ρ vs).set v none)[j]? ≠ _
    by_cases hv : v = j
    · subst hv
      intro z
      by_cases hj : v < (wipeR ρ vs).length
      · rw [List.getElem?_set_self hj] at z; cases z
      · rw [List.getElem?_eq_none (by rw [List.length_set]; omega)] at z; cases z
    · rw [List.getElem?_set_ne hv]
      rcases List.mem_cons.mp h with e | e
      · exact absurd e.symm hv
      · exact wipeR_in e
def gNames : List Nat → TGs
  | [] => gNil
  | i :: is => gCons (gName i) (gNames is)
def NmOk (X : Cx) : List Expr → List Nat → Prop
  | [], [] => True
  | .Name x _ :: es, i :: is => (X.N[i]? = some x ∧ Loc X.env.scope x ∧ (X.fn x = true ∨ X.env.scope.names.lookup x = some .local)) ∧ NmOk X es is
  | _, _ => False
theorem pgs_D {X : Cx} (hN : X.N.Nodup) : ∀ {es : List Expr} {is : List Nat}, NmOk X es is → PGs X es (gNames is)
  | [], [], _ => pgs_nil
  | e :: es, i :: is, h => by
    cases e with
    | Name x p => exact pgs_cons (pg_name hN h.1.1 h.1.2.1 h.1.2.2) (pgs_D hN h.2) rfl
    | _ => exact h.elim
  | [], _ :: _, h => h.elim
  | e :: _, [], h => by cases e <;> exact h.elim
theorem nm_each {X : Cx} : ∀ {es : List Expr} {is : List Nat}, NmOk X es is → (assignEach es X.env).length = is.length ∧ (assignEach es X.env).findIdx? (·.1) = none
  | [], [], _ => ⟨rfl, rfl⟩
  | e :: es, i :: is, h => by
    cases e with
    | Name x p =>
      obtain ⟨h1, h2⟩ := nm_each h.2
      have e1 : assignEach (.Name x p :: es) X.env = (false, assign (.Name x p) X.env) :: assignEach es X.env := rfl
      rw [e1]
      refine ⟨by rw [List.length_cons, List.length_cons, h1], ?_⟩
      rw [List.findIdx?_cons]
      simp [h2]
    | _ => exact h.elim
  | [], _ :: _, h => h.elim
  | e :: _, [], h => by cases e <;> exact h.elim
def TTg (P : Pm) (tg : List Nat) (one : Bool) : TG := fun v σ H Q => ∃ ρ G d ρ', P.Fm ρ G σ H ∧ Rp P.K G v d ∧ setTg P.b0 tg one d ρ = some ρ' ∧
  ∀ σ', P.Fm ρ' G σ' H → (∀ vs : List Nat, (∀ i ∈ tg, i ∈ vs) → wipe σ' vs = wipe σ vs) → Q σ' H
theorem PGw {X : Cx} {e : Expr} {t t' : TG} (h : PG X e t) (k : ∀ v σ H Q, t' v σ H Q → t v σ H Q) : PG X e t' := ⟨fun pins s σ H v u Q I r q => h.run pins s σ H v u Q I r (k _ _ _ _ q)⟩
section
variable {P : Pm} {X : Cx}
theorem set0_io {i : Nat} {d : D} {ρ ρ' : Ro} (h : set0 P.b0 i d ρ = some ρ') : ρ' = ρ.set i (some (d, false)) ∧ (P.io ≠ none → i ≠ 0) := by
  unfold set0 at h
  split at h
  · cases h
  · rename_i hc
    cases h
    refine ⟨rfl, fun hio hi => hc ?_⟩
    subst hi
    unfold Pm.b0
    cases hq : P.io with
    | none => exact absurd hq hio
    | some a => rfl
theorem tg_one {i : Nat} {x : Str} {p : Pos} (hN : X.N.Nodup) (hi : X.N[i]? = some x) (hx : Loc X.env.scope x) (hf : X.fn x = true ∨ X.env.scope.names.lookup x = some .local) : PG X (.Name x p) (TTg P [i] true) := by
  refine PGw (pg_name hN hi hx hf) fun v σ H Q ⟨ρ, G, d, ρ', fm, r, e, k⟩ => ?_
  have e' : set0 P.b0 i d ρ = some ρ' := e
  obtain ⟨rfl, h0⟩ := set0_io e'
  exact k _ (fm.set r h0) fun vs hv => wipe_set (hv i (by simp))
theorem set_many {K : PySem.W.Frag} {Q : L2.St → Hp → Prop} {H G : Hp} : ∀ {is : List Nat} {vs : List V} {ds : List D} {ρ ρ' : Ro} {σ : L2.St}, P.Fm ρ G σ H → RpAll P.K G vs ds → setMany P.b0 is ds ρ = some ρ' →
    (∀ σ', P.Fm ρ' G σ' H → (∀ us : List Nat, (∀ i ∈ is, i ∈ us) → wipe σ' us = wipe σ us) → Q σ' H) → gNames is vs σ H Q
  | [], vs, ds, ρ, ρ', σ, fm, r, e, k => by
    cases ds with
    | nil =>
      cases r
      cases e
      exact ⟨rfl, k σ fm fun _ _ => rfl⟩
    | cons _ _ => cases e
  | i :: is, vs, ds, ρ, ρ', σ, fm, r, e, k => by
    cases ds with
    | nil => cases e
    | cons d ds =>
      cases r with
      | cons r1 r2 =>
        have e' : (set0 P.b0 i d ρ).bind (setMany P.b0 is ds) = some ρ' := e
        cases hs : set0 P.b0 i d ρ with
        | none => rw [hs] at e'; cases e'
        | some ρ1 =>
          rw [hs] at e'
          obtain ⟨rfl, h0⟩ := set0_io hs
          refine ⟨_, _, rfl, ?_⟩
          show gNames is _ (σ.set i _) H Q
          refine set_many (K := K) (fm.set r1 h0) r2 e' fun σ' fm' hw => k σ' fm' fun us hu => ?_
          rw [hw us fun j hj => hu j (List.mem_cons_of_mem _ hj), wipe_set (hu i List.mem_cons_self)]
theorem tg_many {is : List Nat} {es : List Expr} {kk : Nat} {p : Pos} (hK : X.K = P.K) (hc : X.calm = true) (hN : X.N.Nodup) (h : NmOk X es is) : PG X (.Tuple es kk p) (TTg P is false) := by
  obtain ⟨h1, h2⟩ := nm_each h
  refine PGw (pg_tup hc (pgs_D hN h) h1 h2) fun v σ H Q ⟨ρ, G, d, ρ', fm, r, e, k⟩ => ?_
  rw [hK]
  cases r with
  | @tup a xs ds q1 q2 =>
    have e' : setMany P.b0 is ds ρ = some ρ' := e
    have hl : ∀ {is : List Nat} {ds : List D} {ρ ρ' : Ro}, setMany P.b0 is ds ρ = some ρ' → ds.length = is.length := by
      intro is
      induction is with
      | nil => intro ds ρ ρ' h; cases ds with
        | nil => rfl
        | cons _ _ => cases h
      | cons i is ih =>
        intro ds ρ ρ' h
        cases ds with
        | nil => cases h
        | cons d ds =>
          have h' : (set0 P.b0 i d ρ).bind (setMany P.b0 is ds) = some ρ' := h
          cases hs : set0 P.b0 i d ρ with
          | none => rw [hs] at h'; cases h'
          | some ρ1 => rw [hs] at h'; rw [List.length_cons, List.length_cons, ih h']
    exact ⟨a, xs, rfl, Same.seqT fm.sub q1, by rw [q2.length, hl e'], set_many (K := P.K) fm q2 e' k⟩
  | non => cases e
  | bl _ => cases e
  | int _ => cases e
  | str _ => cases e
  | lst _ _ => cases e
  | dct _ _ => cases e
end
end Ev

set_option Elab.async false
set_option linter.all false
set_option maxRecDepth 100000
set_option maxHeartbeats 2000000
namespace Ev
open PySem PySem.Spec PyProof.Rows L2

/-! ## comprehensions -/
def SameB (P P' : Pm) : Prop := P'.K = P.K ∧ P'.mg = P.mg ∧ P'.io = P.io ∧ P'.cal = P.cal ∧ P'.W = fun _ _ _ _ => False
def Pm.blk (P : Pm) (D : Addr) (v : List V) : Pm := { P with Z := fun b => P.Z b ∨ b = D, H0 := fun b => if b = D then some (.lst v) else P.H0 b, W := fun _ _ _ _ => False }
theorem blk_same (P : Pm) (D : Addr) (v : List V) : SameB P (P.blk D v) := ⟨rfl, rfl, rfl, rfl, rfl⟩
def TB (P : Pm) (c : CE) : TE := fun σ H Q => ∃ P', SameB P P' ∧ T P' c σ H Q
def TBT (P : Pm) (c : Option CE) : TT := fun σ H Q => ∃ P', SameB P P' ∧ ∃ ρ G, P'.Fm ρ G σ H ∧ Out P' (fun _ b d => b = d) G σ (evC P'.cal P'.b0 c ρ) Q
def TBG (P : Pm) (tg : List Nat) (one : Bool) : TG := fun v σ H Q => ∃ P', SameB P P' ∧ TTg P' tg one v σ H Q
/-- what a new list gives that nobody else holds -/
def OutO (P : Pm) (G : Hp) (σ : L2.St) (r : Rs (List D)) (Q : VK) : Prop :=
  match r with
  | .ok ds ρ => ∀ p xs G' H', Same G G' → P.Fm ρ G' σ H' → H' p = some (.lst xs) → G' p = none → ¬ P.Z p → (∀ (i : Nat) (d : D), ρ[i]? = some (some (d, true)) → σ[i]? ≠ some (some (.ref p))) → RpAll P.K G' xs ds → Q (.ref p) H'
  | .er c f ρ => ∀ cls dx G' H', Same G G' → P.Fm ρ G' σ H' → ErrV P c f cls dx G' → P.W cls dx σ H'
  | .bad => False
def TOwn (P : Pm) (r : Ro → Rs (List D)) : TE := fun σ H Q => ∃ ρ G, P.Fm ρ G σ H ∧ OutO P G σ (r ρ) Q
section
variable {P : Pm} {G G' H H' : Hp} {σ : L2.St} {ρ : Ro}
/-- the new list is frozen -/
theorem own_frz {r : Rs (List D)} {Q : VK} (h : Out P (fun G v d => Rp P.K G v d) G σ (r.bind fun ds ρ1 => .ok (.list ds) ρ1) Q) : OutO P G σ r Q := by
  cases r with
  | bad => exact h.elim
  | er c f ρ => exact h
  | ok ds ρ1 =>
    intro p xs G1 H1 s1 fm hp gp zp np rp
    have sn : Same G1 (upd G1 p (.lst xs)) := same_new gp
    refine h (.ref p) (upd G1 p (.lst xs)) H1 (Same.trans s1 sn) ?_ (.lst (Ls.of upd_same) (rp.mono sn))
    refine ⟨fun b o e => ?_, fm.len, fun i d hi => ?_, fun i d hi => ?_, fm.dis, fun b hb => ?_, fm.at0⟩
    · by_cases hb : b = p
      · subst hb
        rw [upd_same] at e
        rw [← e]
        exact hp
      · rw [upd_ne hb] at e
        exact fm.sub _ _ e
    · obtain ⟨v, q1, q2⟩ := fm.un i d hi
      exact ⟨v, q1, q2.mono sn⟩
    · obtain ⟨a, o, q1, q3, q4, q5, q6⟩ := fm.ow i d hi
      have ne : a ≠ p := fun z => np i d hi (by rw [← z]; exact q1)
      exact ⟨a, o, q1, q3, by rw [upd_ne ne]; exact q4, q5, q6.mono sn⟩
    · obtain ⟨q1, q2, q3⟩ := fm.zg b hb
      have ne : b ≠ p := fun z => zp (by rw [← z]; exact hb)
      exact ⟨by rw [upd_ne ne]; exact q1, q2, q3⟩
theorem fm_wipe (fm : P.Fm ρ G σ H) {own : List Nat} (h0 : (P.b0 && own.contains 0) = false) : P.Fm (wipeR ρ own) G (wipe σ own) H where
  sub := fm.sub
  len := by rw [wipeR_length, wipe_length]; exact fm.len
  un := fun i d h => by
    have hi : i ∉ own := fun z => wipeR_in z h
    rw [wipeR_out hi] at h
    rw [wipe_out hi]
    exact fm.un i d h
  ow := fun i d h => by
    have hi : i ∉ own := fun z => wipeR_in z h
    rw [wipeR_out hi] at h
    rw [wipe_out hi]
    exact fm.ow i d h
  dis := fun i j d e a h h' q q' => by
    have hi : i ∉ own := fun z => wipeR_in z h
    have hj : j ∉ own := fun z => wipeR_in z h'
    rw [wipeR_out hi] at h
    rw [wipeR_out hj] at h'
    rw [wipe_out hi] at q
    rw [wipe_out hj] at q'
    exact fm.dis i j d e a h h' q q'
  zg := fm.zg
  at0 := fun a ha => by
    have hb : P.b0 = true := by unfold Pm.b0; rw [show P.io = some a from ha]; rfl
    rw [hb, Bool.true_and] at h0
    rw [wipe_out (fun z => by rw [List.contains_iff_mem.mpr z] at h0; cases h0)]
    exact fm.at0 a ha
theorem fm_blk {D : Addr} {v : List V} (fm : P.Fm ρ G σ H) (hD : H D = some (.lst v)) (gD : G D = none) (zD : ¬ P.Z D) (nD : ∀ (i : Nat) (d : Ev.D), ρ[i]? = some (some (d, true)) → σ[i]? ≠ some (some (.ref D))) : (P.blk D v).Fm ρ G σ H where
  sub := fm.sub
  len := fm.len
  un := fm.un
  ow := fun i d h => by
    obtain ⟨a, o, h1, h3, h4, h5, h6⟩ := fm.ow i d h
    exact ⟨a, o, h1, h3, h4, fun z => by
      rcases z with z | z
      · exact h5 z
      · exact nD i d h (by rw [← z]; exact h1), h6⟩
  dis := fm.dis
  zg := fun b hb => by
    rcases hb with hb | rfl
    · obtain ⟨q1, q2, q3⟩ := fm.zg b hb
      have ne : b ≠ D := fun z => zD (by rw [← z]; exact hb)
      exact ⟨q1, by show H b = if b = D then _ else P.H0 b; rw [if_neg ne]; exact q2, by show (if b = D then _ else P.H0 b) ≠ none; rw [if_neg ne]; exact q3⟩
    · refine ⟨gD, ?_, ?_⟩
      · show H b = if b = b then some (.lst v) else P.H0 b
        rw [if_pos rfl]
        exact hD
      · show (if b = b then some (HO.lst v) else P.H0 b) ≠ none
        rw [if_pos rfl]
        exact fun z => nomatch z
  at0 := fm.at0
theorem blk_at {D : Addr} {v : List V} (fm : (P.blk D v).Fm ρ G σ H) : H D = some (.lst v) ∧ G D = none := by
  obtain ⟨h1, h2, _⟩ := fm.zg D (.inr rfl)
  refine ⟨?_, h1⟩
  rw [h2]
  show (if D = D then some (HO.lst v) else P.H0 D) = _
  rw [if_pos rfl]
theorem blk_app {D : Addr} {v w : List V} (fm : (P.blk D v).Fm ρ G σ H) : (P.blk D w).Fm ρ G σ (upd H D (.lst w)) where
  sub := fun b o e => by
    have gD := (blk_at fm).2
    rw [upd_ne (fun z => by rw [z, gD] at e; cases e)]
    exact fm.sub _ _ e
  len := fm.len
  un := fm.un
  ow := fun i d h => by
    obtain ⟨a, o, h1, h3, h4, h5, h6⟩ := fm.ow i d h
    exact ⟨a, o, h1, by rw [upd_ne (fun z => h5 (.inr z))]; exact h3, h4, h5, h6⟩
  dis := fm.dis
  zg := fun b hb => by
    by_cases e : b = D
    · subst e
      refine ⟨(blk_at fm).2, ?_, ?_⟩
      · show upd H b (.lst w) b = if b = b then some (.lst w) else P.H0 b
        rw [if_pos rfl, upd_same]
      · show (if b = b then some (HO.lst w) else P.H0 b) ≠ none
        rw [if_pos rfl]
        exact fun z => nomatch z
    · obtain ⟨q1, q2, q3⟩ := fm.zg b hb
      have e1 : (P.blk D v).H0 b = P.H0 b := if_neg e
      have e2 : (P.blk D w).H0 b = P.H0 b := if_neg e
      rw [e1] at q2 q3
      exact ⟨q1, by rw [upd_ne e, q2]; exact e2.symm, by show (P.blk D w).H0 b ≠ none; rw [e2]; exact q3⟩
  at0 := fm.at0
theorem backR_length (ρ ρ' : Ro) : ∀ vs : List Nat, (backR ρ ρ' vs).length = ρ'.length
  | [] => rfl
  | v :: vs => by
    unfold backR
    split
    · rw [List.length_set, backR_length ρ ρ' vs]
    · exact backR_length ρ ρ' vs
theorem backR_out {ρ ρ' : Ro} {j : Nat} : ∀ {vs : List Nat}, j ∉ vs → (backR ρ ρ' vs)[j]? = ρ'[j]?
  | [], _ => rfl
  | v :: vs, h => by
    have ne : v ≠ j := fun z => h (by rw [z]; exact List.mem_cons_self)
    have ih := backR_out (ρ := ρ) (ρ' := ρ') (j := j) (vs := vs) fun z => h (List.mem_cons_of_mem _ z)
    unfold backR
    split
    · rw [List.getElem?_set_ne ne]
      exact ih
    · exact ih
theorem backR_in {ρ ρ' : Ro} {j : Nat} (hl : ρ.length = ρ'.length) : ∀ {vs : List Nat}, j ∈ vs → (backR ρ ρ' vs)[j]? = ρ[j]?
  | [], h => by cases h
  | v :: vs, h => by
    unfold backR
    by_cases hv : v = j
    · subst hv
      split
      · rename_i x hx
        have hlt := (List.getElem?_eq_some_iff.mp hx).1
        rw [List.getElem?_set_self (by rw [backR_length, ← hl]; exact hlt), hx]
      · rename_i hx
        rw [hx, List.getElem?_eq_none (by rw [backR_length, ← hl]; exact List.getElem?_eq_none_iff.mp hx)]
    · have ih : (backR ρ ρ' vs)[j]? = ρ[j]? := by
        rcases List.mem_cons.mp h with e | e
        · exact absurd e.symm hv
        · exact backR_in hl e
      split
      · rw [List.getElem?_set_ne hv]
        exact ih
      · exact ih
theorem free_un {ρ : Ro} {own : List Nat} (h : free ρ own = true) {i : Nat} (hi : i ∈ own) {d : Ev.D} : ρ[i]? ≠ some (some (d, true)) := by
  intro z
  unfold free at h
  have := List.all_eq_true.mp h i hi
  rw [z] at this
  cases this
/-- the frame is as before, but for what was lent -/
theorem fm_back {D : Addr} {v : List V} {ρ1 : Ro} {G1 H1 : Hp} {own : List Nat} (fm1 : P.Fm ρ1 G1 σ H1) (s : Same G1 G) (zD : ¬ P.Z D) (fm : (P.blk D v).Fm ρ G (wipe σ own) H) (hf : free ρ1 own = true) (hw : ∀ i ∈ own, ∀ x, ρ[i]? ≠ some (some x)) :
    P.Fm (backR ρ1 ρ own) G σ H ∧ ∀ (i : Nat) (d : Ev.D), (backR ρ1 ρ own)[i]? = some (some (d, true)) → σ[i]? ≠ some (some (.ref D)) := by
  have hl : ρ1.length = ρ.length := by rw [fm1.len, fm.len, wipe_length]
  have look : ∀ {i : Nat} {d : Ev.D}, (backR ρ1 ρ own)[i]? = some (some (d, true)) → i ∉ own ∧ ρ[i]? = some (some (d, true)) := fun {i d} h => by
    by_cases hi : i ∈ own
    · rw [backR_in hl hi] at h
      exact absurd h (free_un hf hi)
    · rw [backR_out hi] at h
      exact ⟨hi, h⟩
  refine ⟨⟨fm.sub, by rw [backR_length, ← hl]; exact fm1.len, fun i d h => ?_, fun i d h => ?_, fun i j d e a h h' q q' => ?_, fun b hb => ?_, fun a ha => fm1.at0 a ha⟩, fun i d h => ?_⟩
  · by_cases hi : i ∈ own
    · rw [backR_in hl hi] at h
      obtain ⟨w, q1, q2⟩ := fm1.un i d h
      exact ⟨w, q1, q2.mono s⟩
    · rw [backR_out hi] at h
      have := fm.un i d h
      rwa [wipe_out hi] at this
  · obtain ⟨hi, h⟩ := look h
    obtain ⟨a, o, q1, q3, q4, q5, q6⟩ := fm.ow i d h
    rw [wipe_out hi] at q1
    exact ⟨a, o, q1, q3, q4, fun z => q5 (.inl z), q6⟩
  · obtain ⟨hi, h⟩ := look h
    obtain ⟨hj, h'⟩ := look h'
    exact fm.dis i j d e a h h' (by rw [wipe_out hi]; exact q) (by rw [wipe_out hj]; exact q')
  · obtain ⟨q1, q2, q3⟩ := fm.zg b (.inl hb)
    have ne : b ≠ D := fun z => zD (by rw [← z]; exact hb)
    have e1 : (P.blk D v).H0 b = P.H0 b := if_neg ne
    rw [e1] at q2 q3
    exact ⟨q1, q2, q3⟩
  · obtain ⟨hi, h⟩ := look h
    obtain ⟨a, o, q1, q3, q4, q5, q6⟩ := fm.ow i d h
    rw [wipe_out hi] at q1
    rw [q1]
    exact fun z => q5 (.inr (by cases z; rfl))
end
def evComp (cal : Cal) (b0 : Bool) (kind : Nat) (its : List CE) (tg : List Nat) (one : Bool) (own : List Nat) (cnd : Option CE) (elt : CE) (ρ : Ro) : Rs (List D) := (evA cal b0 its ρ).bind fun ds ρ1 => match itemsD kind ds with
  | none => .bad
  | some xs => if (free ρ1 own && !(b0 && own.contains 0) && tg.all own.contains) = true then
      (compL (setTg b0 tg one) own (evC cal b0 cnd) (ev cal b0 elt) xs (wipeR ρ1 own) []).bind fun acc ρ2 => .ok acc (backR ρ1 ρ2 own)
    else .bad
theorem ev_comp {cal : Cal} {b0 : Bool} {kind : Nat} {its : List CE} {tg : List Nat} {one : Bool} {own : List Nat} {cnd : Option CE} {elt : CE} {ρ : Ro} :
    ev cal b0 (.comp kind its tg one own cnd elt) ρ = (evComp cal b0 kind its tg one own cnd elt ρ).bind fun acc ρ' => .ok (.list acc) ρ' := by
  unfold evComp
  simp only [ev, Rs.assoc]
  cases evA cal b0 its ρ with
  | bad => rfl
  | er _ _ _ => rfl
  | ok ds ρ1 =>
    simp only [Rs.bind_ok]
    cases itemsD kind ds with
    | none => rfl
    | some xs =>
      simp only
      split
      · simp only [Rs.assoc, Rs.bind_ok]
      · rfl
theorem comp_own {P : Pm} {kind : Nat} {its : List CE} {tg : List Nat} {one : Bool} {own : List Nat} {cnd : Option CE} {elt : CE} {σ : L2.St} {H : Hp} {Q : VK} (h : TOwn P (evComp P.cal P.b0 kind its tg one own cnd elt) σ H Q) :
    tLc (TIt P kind its) (TBG P tg one) (TBT P cnd) (TB P elt) own σ H Q := by
  obtain ⟨ρ, G, fm, h⟩ := h
  refine ⟨ρ, G, fm, ?_⟩
  unfold evComp at h
  cases hA : evA P.cal P.b0 its ρ with
  | bad => rw [hA] at h; exact h.elim
  | er c f ρ' => rw [hA] at h; exact h
  | ok ds ρ1 =>
  rw [hA] at h
  simp only [Rs.bind_ok] at h ⊢
  cases hI : itemsD kind ds with
  | none => rw [hI] at h; exact h.elim
  | some xs =>
  rw [hI] at h
  simp only at h
  split at h
  case isFalse => exact h.elim
  case isTrue hc =>
  rw [Bool.and_eq_true, Bool.and_eq_true] at hc
  obtain ⟨⟨hfree, h0⟩, htg⟩ := hc
  have h0' : (P.b0 && own.contains 0) = false := by
    cases hq : (P.b0 && own.contains 0) with
    | false => rfl
    | true => rw [hq] at h0; cases h0
  intro J G1 H1 s1 fm1 wk Dp hD
  generalize hr : compL (setTg P.b0 tg one) own (evC P.cal P.b0 cnd) (ev P.cal P.b0 elt) xs (wipeR ρ1 own) [] = r at h
  have zD : ¬ P.Z Dp := fun z => by
    obtain ⟨_, q2, q3⟩ := fm1.zg Dp z
    rw [hD] at q2
    exact q3 q2.symm
  have gD1 : G1 Dp = none := Same.none fm1.sub hD
  refine ⟨fun i m Hc => m = xs.length - i ∧ i ≤ xs.length ∧ ∃ ρi Gi vacc acc, Same G1 Gi ∧ RpAll P.K Gi vacc acc ∧ (P.blk Dp vacc).Fm ρi Gi (wipe σ own) Hc ∧ (∀ j ∈ own, ∀ x, ρi[j]? ≠ some (some x)) ∧
    compL (setTg P.b0 tg one) own (evC P.cal P.b0 cnd) (ev P.cal P.b0 elt) (xs.drop i) ρi acc = r, ⟨xs.length, by simp, Nat.zero_le _, wipeR ρ1 own, G1, [], [], Same.refl _, .nil, ?_, fun j hj x => wipeR_in hj, by simpa using hr⟩, ?_⟩
  · have f2 := (fm_wipe fm1 h0').ext (Ext.hid (o := .lst []) fm1.sub hD)
    refine fm_blk f2 upd_same gD1 zD fun i d hi => ?_
    obtain ⟨a, o, q1, q3, q4, q5, q6⟩ := (fm_wipe fm1 h0').ow i d hi
    rw [q1]
    intro z
    cases z
    rw [hD] at q3
    cases q3
  · rintro i m Hc ⟨rfl, hi, ρi, Gi, vacc, acc, sGi, rac, fmi, hwi, hcl⟩
    obtain ⟨wgo, wst⟩ := wk Gi Hc sGi fmi.sub
    by_cases hlt : i < xs.length
    · right
      have hx : xs[i]? = some xs[i] := List.getElem?_eq_getElem hlt
      obtain ⟨go, yl⟩ := wgo i _ hx
      rw [List.drop_eq_getElem_cons hlt] at hcl
      have rbad : r ≠ .bad := fun z => by rw [z] at h; exact h
      refine ⟨go, fun Hn => ∃ ρn Gn vn an, Same G1 Gn ∧ RpAll P.K Gn vn an ∧ (P.blk Dp vn).Fm ρn Gn (wipe σ own) Hn ∧ (∀ j ∈ own, ∀ x, ρn[j]? ≠ some (some x)) ∧
        compL (setTg P.b0 tg one) own (evC P.cal P.b0 cnd) (ev P.cal P.b0 elt) (xs.drop (i + 1)) ρn an = r, fun H' ⟨ρn, Gn, vn, an, q1, q2, q3, q4, q5⟩ => ⟨xs.length - (i + 1), by omega, rfl, hlt, ρn, Gn, vn, an, q1, q2, q3, q4, q5⟩, fun x H2 hy => ?_⟩
      obtain ⟨G2, ex, rx⟩ := yl x H2 hy
      unfold compL at hcl
      cases hs : setTg P.b0 tg one xs[i] ρi with
      | none => rw [hs] at hcl; exact absurd hcl.symm rbad
      | some ρ' =>
      rw [hs] at hcl
      simp only at hcl
      refine ⟨P.blk Dp vacc, blk_same _ _ _, ρi, G2, xs[i], ρ', fmi.ext ex, rx, hs, fun σ2 fm2 hw => ?_⟩
      have hwσ : wipe σ2 own = wipe σ own := by
        rw [hw own fun j hj => by simpa using List.all_eq_true.mp htg j hj, wipe_wipe]
      refine ⟨hwσ, P.blk Dp vacc, blk_same _ _ _, ρ', G2, fm2, ?_⟩
      cases hC : evC P.cal P.b0 cnd ρ' with
      | bad => rw [hC] at hcl; exact absurd hcl.symm rbad
      | er c f ρ3 => rw [hC] at hcl; exact absurd hcl.symm rbad
      | ok b ρ3 =>
      rw [hC] at hcl
      simp only [noEr, Rs.bind_ok] at hcl
      have hC' : evC (P.blk Dp vacc).cal (P.blk Dp vacc).b0 cnd ρ' = .ok b ρ3 := hC
      rw [hC']
      intro b' G3 H3 s3 fm3 eb
      have eb' : b' = b := eb
      subst eb'
      cases b' with
      | false =>
        rw [if_neg Bool.false_ne_true] at hcl ⊢
        refine ⟨wipeR ρ3 own, G3, vacc, acc, Same.trans sGi (Same.trans ex.g s3), (rac.mono ex.g).mono s3, ?_, fun j hj x => wipeR_in hj, hcl⟩
        have := fm_wipe fm3 (own := own) h0'
        rwa [hwσ] at this
      | true =>
        rw [if_pos rfl] at hcl ⊢
        refine ⟨P.blk Dp vacc, blk_same _ _ _, ρ3, G3, fm3, ?_⟩
        cases hE : ev P.cal P.b0 elt ρ3 with
        | bad => rw [hE] at hcl; exact absurd hcl.symm rbad
        | er c f ρ4 => rw [hE] at hcl; exact absurd hcl.symm rbad
        | ok d ρ4 =>
        rw [hE] at hcl
        simp only [noEr, Rs.bind_ok] at hcl
        have hE' : ev (P.blk Dp vacc).cal (P.blk Dp vacc).b0 elt ρ3 = .ok d ρ4 := hE
        rw [hE']
        intro y G4 H4 s4 fm4 ry
        split at hcl
        case isFalse => exact absurd hcl.symm rbad
        case isTrue hl =>
        refine ⟨vacc, (blk_at fm4).1, ?_, wipeR ρ4 own, G4, vacc ++ [y], acc ++ [d], Same.trans sGi (Same.trans ex.g (Same.trans s3 s4)), (((rac.mono ex.g).mono s3).mono s4).snoc ry, ?_, fun j hj x => wipeR_in hj, hcl⟩
        · rw [rac.length]
          exact Nat.lt_of_lt_of_le hl (lim_le (Nat.le_refl _))
        · have := fm_wipe (blk_app (w := vacc ++ [y]) fm4) (own := own) h0'
          rwa [hwσ] at this
    · left
      have e : i = xs.length := by omega
      subst e
      refine ⟨wst, ?_⟩
      rw [List.drop_length] at hcl
      simp only [compL] at hcl
      subst hcl
      simp only [Rs.bind_ok] at h
      obtain ⟨f1, f2⟩ := fm_back fm1 sGi zD fmi hfree hwi
      obtain ⟨b1, b2⟩ := blk_at fmi
      exact h Dp vacc Gi Hc (Same.trans s1 sGi) f1 b1 b2 zD f2 rac
end Ev

set_option Elab.async false
set_option linter.all false
set_option maxRecDepth 100000
set_option maxHeartbeats 2000000
namespace Ev
open PySem PySem.Spec PyProof.Rows L2
section
variable {P : Pm} {X : Cx} {a b c e tg it : Expr} {ca cb cc ce : CE} {cs its : List CE} {pos : Pos}
theorem t_comp {kind : Nat} {tgs : List Nat} {one : Bool} {ifs : List Expr} {scope : Scope} {own : List (Str × Nat)} {cnd : Option CE} (hc : X.calm = true) (hN : X.N.Nodup) (hi : PI X tg it (TIt P kind its)) (ok : BlkOk X.N X.env.scope scope own)
    (hg : ∀ (s : Shared) (H : Hp) (C : Addr) (cl : List (Str × Addr)) (fp : List Addr), PG (X.blk s H scope (compEnvC scope cl C X.env) fp) tg (TBG P tgs one))
    (ht : ∀ (s : Shared) (H : Hp) (C : Addr) (cl : List (Str × Addr)) (fp : List Addr), PTs (X.blk s H scope (compEnvC scope cl C X.env) fp) ifs (TBT P cnd))
    (he : ∀ (s : Shared) (H : Hp) (C : Addr) (cl : List (Str × Addr)) (fp : List Addr), PE (X.blk s H scope (compEnvC scope cl C X.env) fp) e (TB P ce)) (hs : ∀ x, foldedSetIterable it X.env x = pure x) :
    PE X (.ListComp e [⟨tg, it, ifs, 0⟩] scope pos) (T P (.comp kind its tgs one (own.map (·.2)) cnd ce)) := by
  refine PEw (pe_lc hc hN hi ok hg ht he hs) fun σ H Q ⟨ρ, G, fm, h⟩ => comp_own ⟨ρ, G, fm, own_frz ?_⟩
  rw [ev_comp] at h
  exact h
end

/-! ## statements -/
inductive CS where
  | asg (i : Nat) (e : CE)
  | own (i : Nat) (e : CE)
  | par (is : List Nat) (es : List (Bool × CE))
  | aug (op : Operator) (i : Nat) (e : CE)
  | aus (op : Operator) (i : Nat) (ix e : CE)
  | unp (is : List Nat) (e : CE)
  | sub (i : Nat) (ix e : CE)
  | app (i : Nat) (e : CE)
  | exp (e : CE)
  | iff (c : CE) (a b : List CS)
  | fr (kind : Nat) (its : List CE) (tg : List Nat) (one : Bool) (body : List CS)
  | wh (c : CE) (body : List CS)
  | ret (e : CE)
  | retO (e : CE)
  | retV (i : Nat)
  | retN
  | brk
  | ctn
  | pas
  | nev
inductive SR where
  | nx (ρ : Ro)
  | rt (d : D) (ρ : Ro)
  | ro (ds : List D) (ρ : Ro)
  | bk (ρ : Ro)
  | ct (ρ : Ro)
  | er (c : Str) (f : Option (Str × D)) (ρ : Ro)
  | bad
def Rs.st {α : Type} (r : Rs α) (f : α → Ro → SR) : SR := match r with
  | .ok a ρ => f a ρ
  | .er c e ρ => .er c e ρ
  | .bad => .bad
def ofS (o : Option Ro) : SR := match o with
  | some ρ => .nx ρ
  | none => .bad
def SR.seq (r : SR) (f : Ro → SR) : SR := match r with
  | .nx ρ => f ρ
  | r => r
def forL (st : D → Ro → Option Ro) (body : Ro → SR) : List D → Ro → SR
  | [], ρ => .nx ρ
  | x :: xs, ρ => match st x ρ with
    | none => .bad
    | some ρ1 => match body ρ1 with
      | .nx ρ2 => forL st body xs ρ2
      | .ct ρ2 => forL st body xs ρ2
      | .bk ρ2 => .nx ρ2
      | r => r
def whL (tst : Ro → Rs Bool) (body : Ro → SR) : Nat → Ro → SR
  | 0, _ => .bad
  | n + 1, ρ => (tst ρ).st fun b ρ1 => if b = true then (match body ρ1 with
    | .nx ρ2 => whL tst body n ρ2
    | .ct ρ2 => whL tst body n ρ2
    | .bk ρ2 => .nx ρ2
    | r => r) else .nx ρ1
/-- a list that nobody else holds -/
def evOwn (cal : Cal) (b0 : Bool) : CE → Ro → Rs (List D)
  | .lst es, ρ => (evA cal b0 es ρ).bind fun ds ρ1 => if ds.length ≤ lim then .ok ds ρ1 else .bad
  | .comp kind its tg one own cnd elt, ρ => evComp cal b0 kind its tg one own cnd elt ρ
  | .bin .Mult a b, ρ => (ev cal b0 a ρ).bind fun x ρ1 => (ev cal b0 b ρ1).bind fun y ρ2 => match x, y with
    | .list xs, .int j => if 0 ≤ j ∧ j ≤ 100000 ∧ xs.length * j.toNat ≤ lim then .ok (List.replicate j.toNat xs).flatten ρ2 else .bad
    | _, _ => .bad
  | .bin .Add a b, ρ => (ev cal b0 a ρ).bind fun x ρ1 => (ev cal b0 b ρ1).bind fun y ρ2 => match x, y with
    | .list xs, .list ys => if xs.length + ys.length ≤ lim then .ok (xs ++ ys) ρ2 else .bad
    | _, _ => .bad
  | .blt .list [a], ρ => (ev cal b0 a ρ).bind fun d ρ1 => match d with
    | .list xs => .ok xs ρ1
    | .tuple xs => .ok xs ρ1
    | _ => .bad
  | .blt .sorted [a], ρ => (ev cal b0 a ρ).bind fun d ρ1 => match sortedD [d] with
    | some (.list xs) => .ok xs ρ1
    | _ => .bad
  | .ite c a b, ρ => (evT cal b0 c ρ).bind fun k ρ1 => if k = true then evOwn cal b0 a ρ1 else evOwn cal b0 b ρ1
  | .call f perm args, ρ => (evA cal b0 args ρ).bind fun ds ρ1 => match permD perm ds with
    | some es => callO (cal f es) ρ1
    | none => .bad
  | .cio f i args, ρ => match ρ[i]? with
    | some (some (_, true)) => (evA cal b0 args ρ).bind fun ds ρ1 => match ρ1[i]? with
      | some (some (.list es, true)) => cioO i (cal f (.list es :: ds)) ρ1
      | _ => .bad
    | _ => .bad
  | _, _ => .bad
def setOwn (b0 : Bool) (i : Nat) (ds : List D) (ρ : Ro) : Option Ro := if (b0 && i == 0) = true then none else some (ρ.set i (some (.list ds, true)))
def setPa (b0 : Bool) : List Nat → List (D × Bool) → Ro → Option Ro
  | [], [], ρ => some ρ
  | i :: is, dw :: ds, ρ => if (b0 && i == 0) = true then none else setPa b0 is ds (ρ.set i (some dw))
  | _, _, _ => none
def evPa (cal : Cal) (b0 : Bool) : List (Bool × CE) → Ro → Rs (List (D × Bool))
  | [], ρ => .ok [] ρ
  | (true, e) :: es, ρ => (evOwn cal b0 e ρ).bind fun ds ρ1 => (evPa cal b0 es ρ1).bind fun r ρ2 => .ok ((.list ds, true) :: r) ρ2
  | (false, e) :: es, ρ => (ev cal b0 e ρ).bind fun d ρ1 => (evPa cal b0 es ρ1).bind fun r ρ2 => .ok ((d, false) :: r) ρ2
def augD : Operator → D → D → Option D
  | .Add, .int i, .int j => some (.int (i + j))
  | .Sub, .int i, .int j => some (.int (i - j))
  | _, _, _ => none
section
variable (cal : Cal) (b0 : Bool)
mutual
def evS : CS → Ro → SR
  | .asg i e, ρ => (ev cal b0 e ρ).st fun d ρ1 => ofS (set0 b0 i d ρ1)
  | .own i e, ρ => (evOwn cal b0 e ρ).st fun ds ρ1 => ofS (setOwn b0 i ds ρ1)
  | .par is es, ρ => (evPa cal b0 es ρ).st fun ds ρ1 => ofS (setPa b0 is ds ρ1)
  | .aug op i e, ρ => match ρ[i]? with
    | some (some (.int x, false)) => (ev cal b0 e ρ).st fun y ρ1 => match augD op (.int x) y with
      | some d => ofS (set0 b0 i d ρ1)
      | none => .bad
    | _ => .bad
  | .aus op i ix e, ρ => match ρ[i]? with
    | some (some (_, true)) => (ev cal b0 ix ρ).st fun k ρ1 => match ρ1[i]?, k with
      | some (some (.list ds, true)), .int j => match ixN ds.length j with
        | some m => match ds[m]? with
          | some (.int x) => (ev cal b0 e ρ1).st fun y ρ2 => match ρ2[i]?, augD op (.int x) y with
            | some (some (.list es, true)), some d => if es.length = ds.length then .nx (ρ2.set i (some (.list (es.set m d), true))) else .bad
            | _, _ => .bad
          | _ => .bad
        | none => .bad
      | _, _ => .bad
    | _ => .bad
  | .unp is e, ρ => (ev cal b0 e ρ).st fun d ρ1 => ofS (setTg b0 is false d ρ1)
  | .sub i ix e, ρ => match ρ[i]? with
    | some (some (_, true)) => (ev cal b0 e ρ).st fun d ρ1 => (ev cal b0 ix ρ1).st fun k ρ2 => match ρ2[i]?, k with
      | some (some (.list ds, true)), .int j => match ixN ds.length j with
        | some m => .nx (ρ2.set i (some (.list (ds.set m d), true)))
        | none => .bad
      | _, _ => .bad
    | _ => .bad
  | .app i e, ρ => match ρ[i]? with
    | some (some (.list _, true)) => (ev cal b0 e ρ).st fun d ρ1 => match ρ1[i]? with
      | some (some (.list ds, true)) => if ds.length < lim then .nx (ρ1.set i (some (.list (ds ++ [d]), true))) else .bad
      | _ => .bad
    | _ => .bad
  | .exp e, ρ => (ev cal b0 e ρ).st fun _ ρ1 => .nx ρ1
  | .iff c a b, ρ => (evT cal b0 c ρ).st fun k ρ1 => if k = true then evB a ρ1 else evB b ρ1
  | .fr kind its tg one body, ρ => ((evA cal b0 its ρ).bind fun ds ρ1 => ofO (itemsD kind ds) ρ1).st fun xs ρ1 => forL (setTg b0 tg one) (evB body) xs ρ1
  | .wh c body, ρ => whL (evT cal b0 c) (evB body) 100000 ρ
  | .ret e, ρ => (ev cal b0 e ρ).st fun d ρ1 => .rt d ρ1
  | .retO e, ρ => (evOwn cal b0 e ρ).st fun ds ρ1 => .ro ds ρ1
  | .retV i, ρ => match ρ[i]? with
    | some (some (.list ds, true)) => if (b0 && i == 0) = true then .bad else .ro ds (ρ.set i none)
    | some (some (.dict ds, true)) => if (b0 && i == 0) = true then .bad else .rt (.dict ds) (ρ.set i (some (.dict ds, false)))
    | some (some (d, false)) => .rt d ρ
    | _ => .bad
  | .retN, ρ => .rt .none ρ
  | .brk, ρ => .bk ρ
  | .ctn, ρ => .ct ρ
  | .pas, ρ => .nx ρ
  | .nev, _ => .bad
def evB : List CS → Ro → SR
  | [], ρ => .nx ρ
  | s :: ss, ρ => (evS s ρ).seq (evB ss)
end
end
def OutS (P : Pm) (G : Hp) (r : SR) (E : Ends) : Prop := match r with
  | .nx ρ => ∀ σ G' H', Same G G' → P.Fm ρ G' σ H' → E.nx σ H'
  | .rt d ρ => ∀ σ v G' H', Same G G' → P.Fm ρ G' σ H' → Rp P.K G' v d → E.rt v H'
  | .ro ds ρ => ∀ σ p xs G' H', Same G G' → P.Fm ρ G' σ H' → H' p = some (.lst xs) → G' p = none → ¬ P.Z p → (∀ (i : Nat) (d : D), ρ[i]? = some (some (d, true)) → σ[i]? ≠ some (some (.ref p))) → RpAll P.K G' xs ds → E.rt (.ref p) H'
  | .bk ρ => ∀ σ G' H', Same G G' → P.Fm ρ G' σ H' → E.bk σ H'
  | .ct ρ => ∀ σ G' H', Same G G' → P.Fm ρ G' σ H' → E.ct σ H'
  | .er c f ρ => ∀ σ cls dx G' H', Same G G' → P.Fm ρ G' σ H' → ErrV P c f cls dx G' → P.W cls dx σ H'
  | .bad => False
def TSt (P : Pm) (s : CS) : TS := fun E σ H => ∃ ρ G, P.Fm ρ G σ H ∧ OutS P G (evS P.cal P.b0 s ρ) E
def TSs (P : Pm) (s : List CS) : TS := fun E σ H => ∃ ρ G, P.Fm ρ G σ H ∧ OutS P G (evB P.cal P.b0 s ρ) E
section
variable {P : Pm} {X : Cx} {G G1 H : Hp} {σ : L2.St} {ρ : Ro} {E : Ends} {α β : Type}
theorem OutS.mono {r : SR} (s : Same G G1) (h : OutS P G r E) : OutS P G1 r E := by
  cases r with
  | nx ρ => exact fun σ G' H' s' => h σ G' H' (Same.trans s s')
  | rt d ρ => exact fun σ v G' H' s' => h σ v G' H' (Same.trans s s')
  | ro ds ρ => exact fun σ p xs G' H' s' => h σ p xs G' H' (Same.trans s s')
  | bk ρ => exact fun σ G' H' s' => h σ G' H' (Same.trans s s')
  | ct ρ => exact fun σ G' H' s' => h σ G' H' (Same.trans s s')
  | er c f ρ => exact fun σ cls dx G' H' s' => h σ cls dx G' H' (Same.trans s s')
  | bad => exact h
theorem OutS.ex {R : Hp → β → α → Prop} {r : Rs α} {f : α → Ro → SR} {Q1 : β → Hp → Prop} (h : OutS P G (r.st f) E) (k : ∀ a ρ1 b G1 H1, Same G G1 → P.Fm ρ1 G1 σ H1 → R G1 b a → OutS P G1 (f a ρ1) E → Q1 b H1) : Out P R G σ r Q1 := by
  cases r with
  | ok a ρ => exact fun b G' H' s fm r => k a ρ b G' H' s fm r (OutS.mono s h)
  | er c f' ρ => exact fun cls dx G' H' s fm e => h σ cls dx G' H' s fm e
  | bad => exact h
theorem OutS.next (h : OutS P G (.nx ρ) E) (fm : P.Fm ρ G σ H) : E.nx σ H := h σ G H (Same.refl G) fm
theorem OutS.set {i : Nat} {d : D} {v : V} (h : OutS P G (ofS (set0 P.b0 i d ρ)) E) (fm : P.Fm ρ G σ H) (r : Rp P.K G v d) : E.nx (σ.set i (some v)) H := by
  cases hs : set0 P.b0 i d ρ with
  | none => rw [hs] at h; exact h.elim
  | some ρ' =>
    rw [hs] at h
    obtain ⟨rfl, h0⟩ := set0_io hs
    exact OutS.next h (fm.set r h0)
/-- an owned list comes to a slot -/
theorem fm_own {i : Nat} {p : Addr} {xs : List V} {ds : List D} (fm : P.Fm ρ G σ H) (hp : H p = some (.lst xs)) (gp : G p = none) (zp : ¬ P.Z p) (np : ∀ (i : Nat) (d : D), ρ[i]? = some (some (d, true)) → σ[i]? ≠ some (some (.ref p))) (rp : RpAll P.K G xs ds) (h0 : P.io ≠ none → i ≠ 0) :
    P.Fm (ρ.set i (some (.list ds, true))) G (σ.set i (some (.ref p))) H := by
  have old : ∀ {j : Nat} {d : D} {w : Bool}, i ≠ j → (ρ.set i (some (PyData.list ds, true)))[j]? = some (some (d, w)) → ρ[j]? = some (some (d, w)) := fun hij h => by
    rwa [List.getElem?_set_ne hij] at h
  refine ⟨fm.sub, by rw [List.length_set, List.length_set]; exact fm.len, fun j d hj => ?_, fun j d hj => ?_, fun j k d e a hj hk h1 h2 => ?_, fm.zg, fun a ha => ?_⟩
  · by_cases hij : i = j
    · subst hij
      have il : i < ρ.length := by have := (List.getElem?_eq_some_iff.mp hj).1; rwa [List.length_set] at this
      rw [List.getElem?_set_self il] at hj
      cases hj
    · rw [List.getElem?_set_ne hij]
      exact fm.un j d (old hij hj)
  · by_cases hij : i = j
    · subst hij
      have il : i < ρ.length := by have := (List.getElem?_eq_some_iff.mp hj).1; rwa [List.length_set] at this
      rw [List.getElem?_set_self il] at hj
      cases hj
      exact ⟨p, .lst xs, List.getElem?_set_self (by rw [← fm.len]; exact il), hp, gp, zp, rp⟩
    · rw [List.getElem?_set_ne hij]
      exact fm.ow j d (old hij hj)
  · by_cases hij : i = j
    · by_cases hik : i = k
      · rw [← hij, ← hik]
      · exfalso
        subst hij
        have il : i < ρ.length := by have := (List.getElem?_eq_some_iff.mp hj).1; rwa [List.length_set] at this
        rw [List.getElem?_set_self (by rw [← fm.len]; exact il)] at h1
        cases h1
        rw [List.getElem?_set_ne hik] at h2
        exact np k e (old hik hk) h2
    · by_cases hik : i = k
      · exfalso
        subst hik
        have il : i < ρ.length := by have := (List.getElem?_eq_some_iff.mp hk).1; rwa [List.length_set] at this
        rw [List.getElem?_set_self (by rw [← fm.len]; exact il)] at h2
        cases h2
        rw [List.getElem?_set_ne hij] at h1
        exact np j d (old hij hj) h1
      · rw [List.getElem?_set_ne hij] at h1
        rw [List.getElem?_set_ne hik] at h2
        exact fm.dis j k d e a (old hij hj) (old hik hk) h1 h2
  · rw [List.getElem?_set_ne (h0 (by rw [show P.io = some a from ha]; exact fun z => nomatch z))]
    exact fm.at0 a ha
/-- an owned list is stored into -/
theorem fm_upd {i : Nat} {d0 : D} {a : Addr} {ys : List V} {es : List D} (fm : P.Fm ρ G σ H) (hi : ρ[i]? = some (some (d0, true))) (ha : σ[i]? = some (some (.ref a))) (r : RpAll P.K G ys es) : P.Fm (ρ.set i (some (.list es, true))) G σ (upd H a (.lst ys)) := by
  obtain ⟨a', o0, p1, p3, p4, p5, p6⟩ := fm.ow i d0 hi
  rw [ha] at p1
  cases p1
  have il : i < ρ.length := (List.getElem?_eq_some_iff.mp hi).1
  have own : ∀ {j : Nat} {d : D}, (ρ.set i (some (PyData.list es, true)))[j]? = some (some (d, true)) → ∃ d', ρ[j]? = some (some (d', true)) := fun {j d} hj => by
    by_cases hij : i = j
    · subst hij
      exact ⟨_, hi⟩
    · rw [List.getElem?_set_ne hij] at hj
      exact ⟨_, hj⟩
  refine ⟨fun b u e => ?_, by rw [List.length_set]; exact fm.len, fun j d hj => ?_, fun j d hj => ?_, fun j k d e b hj hk h1 h2 => ?_, fun b hb => ?_, fm.at0⟩
  · rw [upd_ne (fun z => by rw [z, p4] at e; cases e)]
    exact fm.sub _ _ e
  · by_cases hij : i = j
    · subst hij
      rw [List.getElem?_set_self il] at hj
      cases hj
    · rw [List.getElem?_set_ne hij] at hj
      exact fm.un j d hj
  · by_cases hij : i = j
    · subst hij
      rw [List.getElem?_set_self il] at hj
      cases hj
      exact ⟨a, .lst ys, ha, upd_same, p4, p5, r⟩
    · rw [List.getElem?_set_ne hij] at hj
      obtain ⟨b, o, q1, q3, q4, q5, q6⟩ := fm.ow j d hj
      have ne : b ≠ a := fun z => hij (fm.dis i j _ _ a hi hj ha (by rw [← z]; exact q1))
      exact ⟨b, o, q1, by rw [upd_ne ne]; exact q3, q4, q5, q6⟩
  · obtain ⟨_, w1⟩ := own hj
    obtain ⟨_, w2⟩ := own hk
    exact fm.dis j k _ _ b w1 w2 h1 h2
  · obtain ⟨q1, q2, q3⟩ := fm.zg b hb
    have ne : b ≠ a := fun z => p5 (by rw [← z]; exact hb)
    exact ⟨q1, by rw [upd_ne ne]; exact q2, q3⟩
theorem OutO.ex {r : Rs (List D)} {f : List D → Ro → SR} {Q : VK} (h : OutS P G (r.st f) E) (k : ∀ ds ρ1 p xs G1 H1, Same G G1 → P.Fm ρ1 G1 σ H1 → H1 p = some (.lst xs) → G1 p = none → ¬ P.Z p → (∀ (i : Nat) (d : D), ρ1[i]? = some (some (d, true)) → σ[i]? ≠ some (some (.ref p))) → RpAll P.K G1 xs ds →
    OutS P G1 (f ds ρ1) E → Q (.ref p) H1) : OutO P G σ r Q := by
  cases r with
  | ok a ρ => exact fun p xs G' H' s fm h1 h2 h3 h4 h5 => k a ρ p xs G' H' s fm h1 h2 h3 h4 h5 (OutS.mono s h)
  | er c f' ρ => exact fun cls dx G' H' s fm e => h σ cls dx G' H' s fm e
  | bad => exact h
theorem OutS.setOwn {i : Nat} {p : Addr} {xs : List V} {ds : List D} (h : OutS P G (ofS (setOwn P.b0 i ds ρ)) E) (fm : P.Fm ρ G σ H) (hp : H p = some (.lst xs)) (gp : G p = none) (zp : ¬ P.Z p) (np : ∀ (i : Nat) (d : D), ρ[i]? = some (some (d, true)) → σ[i]? ≠ some (some (.ref p))) (rp : RpAll P.K G xs ds) : E.nx (σ.set i (some (.ref p))) H := by
  unfold Ev.setOwn at h
  split at h
  · exact h.elim
  · rename_i hc
    refine OutS.next h (fm_own fm hp gp zp np rp fun hio hi => hc ?_)
    subst hi
    unfold Pm.b0
    cases hq : P.io with
    | none => exact absurd hq hio
    | some a => rfl
/-- a list that is just made is nobody else's -/
theorem own_new {xs : List V} {ds : List D} {Q : VK} (fm : P.Fm ρ G σ H) (rp : RpAll P.K G xs ds) (h : ∀ p G' H', Same G G' → P.Fm ρ G' σ H' → H' p = some (.lst xs) → G' p = none → ¬ P.Z p → (∀ (i : Nat) (d : D), ρ[i]? = some (some (d, true)) → σ[i]? ≠ some (some (.ref p))) → RpAll P.K G' xs ds → Q (.ref p) H') :
    ∀ p, H p = none → Q (.ref p) (upd H p (.lst xs)) := fun p hp => by
  refine h p G _ (Same.refl G) (fm.ext (Ext.hid fm.sub hp)) upd_same (Same.none fm.sub hp) (fun z => ?_) (fun i d hi z => ?_) rp
  · obtain ⟨_, q2, q3⟩ := fm.zg p z
    rw [hp] at q2
    exact q3 q2.symm
  · obtain ⟨a, o, q1, q3, _⟩ := fm.ow i d hi
    rw [q1] at z
    cases z
    rw [hp] at q3
    cases q3
end
end Ev

set_option Elab.async false
set_option linter.all false
set_option maxRecDepth 100000
set_option maxHeartbeats 2000000
namespace Ev
open PySem PySem.Spec PyProof.Rows L2
section
variable {P : Pm} {X : Cx} {a b c e tg it : Expr} {ca cb cc ce : CE} {cs its : List CE} {pos : Pos} {st : Stmt} {sts rest : List Stmt}
theorem s_nil : PSs X [] (TSs P []) := PSsw pss_nil fun D σ H ⟨ρ, G, fm, h⟩ => by
  simp only [evB] at h
  exact OutS.next h fm
theorem outS_seq {G H : Hp} {σ : L2.St} {D : Ends} {r : SR} {ss : List CS} (h : OutS P G (r.seq (evB P.cal P.b0 ss)) D) : OutS P G r { D with nx := TSs P ss D } := by
  cases r with
  | nx ρ => exact fun σ G' H' s fm => ⟨ρ, G', fm, OutS.mono s h⟩
  | rt d ρ => exact h
  | ro ds ρ => exact h
  | bk ρ => exact h
  | ct ρ => exact h
  | er c f ρ => exact h
  | bad => exact h
theorem s_cons {s : CS} {ss : List CS} (h1 : PS X st (TSt P s)) (h2 : PSs X rest (TSs P ss)) : PSs X (st :: rest) (TSs P (s :: ss)) := PSsw (pss_cons h1 h2) fun D σ H ⟨ρ, G, fm, h⟩ => by
  simp only [evB] at h
  exact ⟨ρ, G, fm, outS_seq (H := H) (σ := σ) h⟩
theorem s_asg {i : Nat} {x : Str} {pos' : Pos} (hN : X.N.Nodup) (hi : X.N[i]? = some x) (hx : Loc X.env.scope x) (he : PE X e (T P ce)) (hs : swapsWith e (some (.Name x pos')) pos.line X.env = pure false) (hf : X.fn x = true ∨ X.env.scope.names.lookup x = some .local) :
    PS X (.Assign [.Name x pos'] e pos) (TSt P (.asg i ce)) := PSw (ps_set hN hi hx he hs hf) fun D σ H ⟨ρ, G, fm, h⟩ => by
  simp only [evS] at h
  exact ⟨ρ, G, fm, OutS.ex h fun d ρ1 v G1 H1 s1 fm1 r1 h1 => OutS.set h1 fm1 r1⟩
theorem s_expr (he : PE X e (T P ce)) (hs : swapsWith e none pos.line X.env = pure false) : PS X (.Expr e pos) (TSt P (.exp ce)) := PSw (ps_expr he hs) fun D σ H ⟨ρ, G, fm, h⟩ => by
  simp only [evS] at h
  exact ⟨ρ, G, fm, OutS.ex h fun d ρ1 v G1 H1 s1 fm1 r1 h1 => OutS.next h1 fm1⟩
theorem s_doc {x : Str} {j : Nat} {pos' : Pos} : PS X (.Expr (.Constant (.str x) j pos) pos') (TSt P .pas) := PSw ps_doc fun D σ H ⟨ρ, G, fm, h⟩ => by
  simp only [evS] at h
  exact OutS.next h fm
theorem s_pas : PS X (.Pass pos) (TSt P .pas) := PSw ps_pass fun D σ H ⟨ρ, G, fm, h⟩ => by
  simp only [evS] at h
  exact OutS.next h fm
theorem s_brk : PS X (.Break pos) (TSt P .brk) := PSw ps_break fun D σ H ⟨ρ, G, fm, h⟩ => by
  simp only [evS] at h
  exact h σ G H (Same.refl G) fm
theorem s_ctn : PS X (.Continue pos) (TSt P .ctn) := PSw ps_continue fun D σ H ⟨ρ, G, fm, h⟩ => by
  simp only [evS] at h
  exact h σ G H (Same.refl G) fm
theorem s_nev : PS X st (TSt P .nev) := PSw ps_never fun D σ H ⟨ρ, G, fm, h⟩ => by
  simp only [evS] at h
  exact h
theorem s_ret (he : PE X e (T P ce)) : PS X (.Return (some e) pos) (TSt P (.ret ce)) := PSw (ps_ret he) fun D σ H ⟨ρ, G, fm, h⟩ => by
  simp only [evS] at h
  exact ⟨ρ, G, fm, OutS.ex h fun d ρ1 v G1 H1 s1 fm1 r1 h1 => h1 σ v G1 H1 (Same.refl G1) fm1 r1⟩
theorem s_retN : PS X (.Return none pos) (TSt P .retN) := PSw ps_retN fun D σ H ⟨ρ, G, fm, h⟩ => by
  simp only [evS] at h
  exact h σ .non G H (Same.refl G) fm .non
theorem s_if {sa sb : List Stmt} {ka kb : List CS} (hc : PT X c (TT' P cc)) (ha : PSs X sa (TSs P ka)) (hb : PSs X sb (TSs P kb)) : PS X (.If c sa sb pos) (TSt P (.iff cc ka kb)) := PSw (ps_if hc ha hb) fun D σ H ⟨ρ, G, fm, h⟩ => by
  simp only [evS] at h
  refine ⟨ρ, G, fm, OutS.ex h fun k ρ1 k' G1 H1 s1 fm1 e1 h1 => ?_⟩
  have e2 : k' = k := e1
  subst e2
  cases k' with
  | true => exact iteT ⟨ρ1, G1, fm1, h1⟩
  | false => exact iteF ⟨ρ1, G1, fm1, h1⟩
theorem s_retO (he : PE X e (TOwn P (evOwn P.cal P.b0 ce))) : PS X (.Return (some e) pos) (TSt P (.retO ce)) := PSw (ps_ret he) fun D σ H ⟨ρ, G, fm, h⟩ => by
  simp only [evS] at h
  exact ⟨ρ, G, fm, OutO.ex h fun ds ρ1 p xs G1 H1 s1 fm1 q1 q2 q3 q4 q5 h1 => h1 σ p xs G1 H1 (Same.refl G1) fm1 q1 q2 q3 q4 q5⟩
/-- a name's list is given away -/
theorem fm_out {ρ : Ro} {G H : Hp} {σ : L2.St} {i : Nat} (fm : P.Fm ρ G σ H) : P.Fm (ρ.set i none) G σ H := by
  have key : ∀ {j : Nat} {x : D × Bool}, (ρ.set i none)[j]? = some (some x) → ρ[j]? = some (some x) ∧ i ≠ j := fun {j x} hj => by
    by_cases hij : i = j
    · subst hij
      have il : i < ρ.length := by have := (List.getElem?_eq_some_iff.mp hj).1; rwa [List.length_set] at this
      rw [List.getElem?_set_self il] at hj
      cases hj
    · rw [List.getElem?_set_ne hij] at hj
      exact ⟨hj, hij⟩
  exact ⟨fm.sub, by rw [List.length_set]; exact fm.len, fun j d hj => fm.un j d (key hj).1, fun j d hj => fm.ow j d (key hj).1, fun j k d e a hj hk => fm.dis j k d e a (key hj).1 (key hk).1, fm.zg, fm.at0⟩
theorem s_retV {i : Nat} {x : Str} {px : Pos} (hN : X.N[i]? = some x) (hv : Vis X.env.scope x) (hd : (x == ("__debug__" : Str)) = false) (hcd : (x == ("__classdict__" : Str)) = false) : PS X (.Return (some (.Name x px)) pos) (TSt P (.retV i)) := PSw (ps_ret (pe_var hN hv hd hcd)) fun D σ H ⟨ρ, G, fm, h⟩ => by
  simp only [evS] at h
  cases hr : ρ[i]? with
  | none => rw [hr] at h; exact h.elim
  | some o =>
  match o, hr, h with
  | none, hr, h => rw [hr] at h; exact h.elim
  | some (d0, false), hr, h =>
    rw [hr] at h
    obtain ⟨v, q1, q2⟩ := fm.un i d0 hr
    refine ⟨v, q1, ?_⟩
    have h' : OutS P G (.rt d0 ρ) D := by cases d0 <;> exact h
    exact h' σ v G H (Same.refl G) fm q2
  | some (.dict ds, true), hr, h =>
    rw [hr] at h
    simp only at h
    split at h
    · exact h.elim
    · obtain ⟨G', a, sg, h1, h2, h3⟩ := fm.freeze hr
      exact ⟨_, h1, h σ _ G' H sg h3 h2⟩
  | some (.none, true), hr, h => rw [hr] at h; exact h.elim
  | some (.bool _, true), hr, h => rw [hr] at h; exact h.elim
  | some (.int _, true), hr, h => rw [hr] at h; exact h.elim
  | some (.str _, true), hr, h => rw [hr] at h; exact h.elim
  | some (.tuple _, true), hr, h => rw [hr] at h; exact h.elim
  | some (.list d0, true), hr, h =>
    rw [hr] at h
    obtain ⟨p, xs, q1, q3, q4, q5, q6⟩ := fm.owL hr
    simp only at h
    split at h
    · exact h.elim
    · refine ⟨_, q1, h σ p xs G H (Same.refl G) (fm_out fm) q3 q4 q5 (fun j d hj z => ?_) q6⟩
      by_cases hij : i = j
      · subst hij
        have il : i < ρ.length := (List.getElem?_eq_some_iff.mp hr).1
        rw [List.getElem?_set_self il] at hj
        cases hj
      · rw [List.getElem?_set_ne hij] at hj
        exact hij (fm.dis i j _ _ p hr hj q1 z)
theorem end_callO {G H : Hp} {σ : L2.St} {ρ : Ro} {r : Ev.CR} {Q : VK} (fm : P.Fm ρ G σ H) (h : OutO P G σ (callO r ρ) Q) : EndC P.K P.mg G H none r Q (WE P.W σ) := by
  cases r with
  | ok d d0 => cases d0 <;> exact h.elim
  | ow ds d0 =>
    cases d0 with
    | none =>
      intro p xs G' H' s1 s2 st hp gp hp' rp _
      obtain ⟨zp, np⟩ := fm_new fm hp
      exact h p xs G' H' s1 (fm_call fm s1 s2 st) hp' gp zp np rp
    | some e => exact h.elim
  | er c f d0 =>
    cases d0 with
    | none => exact fun cls dx G' H' s1 s2 st er _ => h cls dx G' H' s1 (fm_call fm s1 s2 st) er
    | some e => exact h.elim
  | bad => exact h.elim
theorem end_lentO {G H : Hp} {σ : L2.St} {ρ : Ro} {r : Ev.CR} {Q : VK} {i : Nat} {d0 : D} {a : Addr} (fm : P.Fm ρ G σ H) (hi : ρ[i]? = some (some (d0, true))) (ha : σ[i]? = some (some (.ref a))) (h : OutO P G σ (cioO i r ρ) Q) : EndC P.K P.mg G H (some a) r Q (WE P.W σ) := by
  cases r with
  | ok d d1 => cases d1 <;> exact h.elim
  | ow ds d1 =>
    cases d1 with
    | none => exact h.elim
    | some e =>
      intro p xs G' H' s1 s2 st hp gp hp' rp ln
      obtain ⟨zp, np⟩ := fm_new fm hp
      cases e with
      | list es => exact let ⟨g, ys, q1, q2⟩ := ln; h p xs G' H' s1 (fm_lent fm hi ha s1 s2 st g q1 q2) hp' gp zp (np_set hi np) rp
      | _ => exact ln.elim
  | er c f d1 =>
    cases d1 with
    | none => exact h.elim
    | some e =>
      intro cls dx G' H' s1 s2 st er ln
      cases e with
      | list es => exact let ⟨g, ys, q1, q2⟩ := ln; h cls dx G' H' s1 (fm_lent fm hi ha s1 s2 st g q1 q2) er
      | _ => exact ln.elim
  | bad => exact h.elim
theorem outO_mono {G G1 : Hp} {σ : L2.St} {r : Rs (List D)} {Q : VK} (s : Same G G1) (h : OutO P G σ r Q) : OutO P G1 σ r Q := by
  cases r with
  | ok ds ρ => exact fun p xs G' H' s' => h p xs G' H' (Same.trans s s')
  | er c f ρ => exact fun cls dx G' H' s' => h cls dx G' H' (Same.trans s s')
  | bad => exact h
theorem tca_O {x : Str} {perm : List Nat} {σ : L2.St} {H : Hp} {Q : VK} (h : TOwn P (evOwn P.cal P.b0 (.call x perm cs)) σ H Q) : TCa P x perm cs σ H Q := by
  obtain ⟨ρ, G, fm, h⟩ := h
  refine ⟨ρ, G, fm, ?_⟩
  simp only [evOwn] at h
  cases hq : evA P.cal P.b0 cs ρ with
  | bad => rw [hq] at h; exact h
  | er c f ρ' => rw [hq] at h; exact h
  | ok ds ρ1 =>
    rw [hq] at h
    intro G1 H1 s1 fm1
    have h1 := outO_mono s1 h
    simp only [Rs.bind_ok] at h1
    cases hp : permD perm ds with
    | none => rw [hp] at h1; exact h1.elim
    | some es => rw [hp] at h1; exact ⟨es, rfl, end_callO fm1 h1⟩
theorem tci_O {x : Str} {i : Nat} {σ : L2.St} {H : Hp} {Q : VK} (h : TOwn P (evOwn P.cal P.b0 (.cio x i cs)) σ H Q) : TCi P x i cs σ H Q := by
  obtain ⟨ρ, G, fm, h⟩ := h
  simp only [evOwn] at h
  cases hr0 : ρ[i]? with
  | none => rw [hr0] at h; exact h.elim
  | some o =>
  match o, hr0, h with
  | none, hr0, h => rw [hr0] at h; exact h.elim
  | some (d0, false), hr0, h => rw [hr0] at h; exact h.elim
  | some (d0, true), hr0, h =>
    rw [hr0] at h
    refine ⟨ρ, G, fm, ⟨d0, hr0⟩, ?_⟩
    cases hq : evA P.cal P.b0 cs ρ with
    | bad => rw [hq] at h; exact h.elim
    | er c f ρ' => rw [hq] at h; exact h
    | ok ds ρ1 =>
      rw [hq] at h
      intro G1 H1 s1 fm1
      have h1 := outO_mono s1 h
      simp only [Rs.bind_ok] at h1
      cases hr1 : ρ1[i]? with
      | none => rw [hr1] at h1; exact h1.elim
      | some o1 =>
      match o1, hr1, h1 with
      | none, hr1, h1 => rw [hr1] at h1; exact h1.elim
      | some (d1, false), hr1, h1 => rw [hr1] at h1; cases d1 <;> exact h1.elim
      | some (.list es, true), hr1, h1 => rw [hr1] at h1; exact ⟨es, rfl, fun a ha => end_lentO fm1 hr1 ha h1⟩
      | some (.none, true), hr1, h1 => rw [hr1] at h1; exact h1.elim
      | some (.bool _, true), hr1, h1 => rw [hr1] at h1; exact h1.elim
      | some (.int _, true), hr1, h1 => rw [hr1] at h1; exact h1.elim
      | some (.str _, true), hr1, h1 => rw [hr1] at h1; exact h1.elim
      | some (.tuple _, true), hr1, h1 => rw [hr1] at h1; exact h1.elim
      | some (.dict _, true), hr1, h1 => rw [hr1] at h1; exact h1.elim
/-- a list literal, or a copy, that nobody else holds -/
theorem own_lst {es : List Expr} (h : PA X es (TAs P cs)) : PE X (.List es pos) (TOwn P (evOwn P.cal P.b0 (.lst cs))) := by
  refine PEw (pe_lst h) fun σ H Q ⟨ρ, G, fm, h⟩ => ⟨ρ, G, fm, ?_⟩
  simp only [evOwn] at h
  cases hq : evA P.cal P.b0 cs ρ with
  | bad => rw [hq] at h; exact h.elim
  | er c f ρ1 => rw [hq] at h; exact h
  | ok ds ρ1 =>
    rw [hq] at h
    simp only [Rs.bind_ok] at h
    intro vs G1 H1 s1 fm1 r1
    split at h
    · rename_i hl
      exact ⟨by rw [r1.length]; exact lim_le hl, own_new fm1 r1 fun p G' H' s' fm' q1 q2 q3 q4 q5 => h p vs G' H' (Same.trans s1 s') fm' q1 q2 q3 q4 q5⟩
    · exact h.elim
theorem own_rep {op : Operator} (hK : X.K = P.K) (ho : op = .Mult) (ha : PE X a (T P ca)) (hb : PE X b (T P cb)) : PE X (.BinOp a op b pos) (TOwn P (evOwn P.cal P.b0 (.bin op ca cb))) := by
  subst ho
  refine PEw (pe_op op_repR ha hb) fun σ H Q ⟨ρ, G, fm, h⟩ => ⟨ρ, G, fm, ?_⟩
  simp only [evOwn] at h
  cases hq : ev P.cal P.b0 ca ρ with
  | bad => rw [hq] at h; exact h.elim
  | er c f ρ1 => rw [hq] at h; exact h
  | ok x ρ1 =>
    rw [hq] at h
    simp only [Rs.bind_ok] at h
    intro v G1 H1 s1 fm1 r1
    refine ⟨ρ1, G1, fm1, ?_⟩
    cases hq2 : ev P.cal P.b0 cb ρ1 with
    | bad => rw [hq2] at h; exact h.elim
    | er c f ρ2 => rw [hq2] at h; exact fun cls dx G' H' s fm e => h cls dx G' H' (Same.trans s1 s) fm e
    | ok y ρ2 =>
      rw [hq2] at h
      simp only [Rs.bind_ok] at h
      intro w G2 H2 s2 fm2 r2
      cases r1 with
      | @lst p xs ds p1 p2 =>
        cases r2 with
        | int j =>
          simp only at h
          split at h
          · rename_i hl
            have key : ∀ n : Nat, RpAll P.K G2 (List.replicate n xs).flatten (List.replicate n ds).flatten := by
              intro n
              induction n with
              | zero => exact .nil
              | succ n ih =>
                rw [List.replicate_succ, List.replicate_succ, List.flatten_cons, List.flatten_cons]
                exact (p2.mono s2).append ih
            exact ⟨p, j, xs, rfl, rfl, (by rw [hK]; exact Same.ls fm2.sub (Same.ls s2 p1)), hl.1, hl.2.1, by rw [p2.length]; exact hl.2.2, own_new fm2 (key _) fun p G' H' s' fm' q1 q2 q3 q4 q5 => h p _ G' H' (Same.trans s1 (Same.trans s2 s')) fm' q1 q2 q3 q4 q5⟩
          · exact h.elim
        | _ => exact h.elim
      | _ => exact h.elim
theorem own_cat {op : Operator} (hK : X.K = P.K) (ho : op = .Add) (ha : PE X a (T P ca)) (hb : PE X b (T P cb)) : PE X (.BinOp a op b pos) (TOwn P (evOwn P.cal P.b0 (.bin op ca cb))) := by
  subst ho
  refine PEw (pe_op op_catR ha hb) fun σ H Q ⟨ρ, G, fm, h⟩ => ⟨ρ, G, fm, ?_⟩
  simp only [evOwn] at h
  cases hq : ev P.cal P.b0 ca ρ with
  | bad => rw [hq] at h; exact h.elim
  | er c f ρ1 => rw [hq] at h; exact h
  | ok x ρ1 =>
    rw [hq] at h
    simp only [Rs.bind_ok] at h
    intro v G1 H1 s1 fm1 r1
    refine ⟨ρ1, G1, fm1, ?_⟩
    cases hq2 : ev P.cal P.b0 cb ρ1 with
    | bad => rw [hq2] at h; exact h.elim
    | er c f ρ2 => rw [hq2] at h; exact fun cls dx G' H' s fm e => h cls dx G' H' (Same.trans s1 s) fm e
    | ok y ρ2 =>
      rw [hq2] at h
      simp only [Rs.bind_ok] at h
      intro w G2 H2 s2 fm2 r2
      cases r1 with
      | @lst p xs ds p1 p2 =>
        cases r2 with
        | @lst p' ys es p3 p4 =>
          simp only at h
          split at h
          · rename_i hl
            exact ⟨p, p', xs, ys, rfl, rfl, (by rw [hK]; exact Same.ls fm2.sub (Same.ls s2 p1)), (by rw [hK]; exact Same.ls fm2.sub p3), by rw [p2.length, p4.length]; exact lim_le hl,
              own_new fm2 ((p2.mono s2).append p4) fun p G' H' s' fm' q1 q2 q3 q4 q5 => h p _ G' H' (Same.trans s1 (Same.trans s2 s')) fm' q1 q2 q3 q4 q5⟩
          · exact h.elim
        | _ => exact h.elim
      | _ => exact h.elim
theorem own_comp {kind : Nat} {tgs : List Nat} {one : Bool} {ifs : List Expr} {scope : Scope} {own : List (Str × Nat)} {cnd : Option CE} (hc : X.calm = true) (hN : X.N.Nodup) (hi : PI X tg it (TIt P kind its)) (ok : BlkOk X.N X.env.scope scope own)
    (hg : ∀ (s : Shared) (H : Hp) (C : Addr) (cl : List (Str × Addr)) (fp : List Addr), PG (X.blk s H scope (compEnvC scope cl C X.env) fp) tg (TBG P tgs one))
    (ht : ∀ (s : Shared) (H : Hp) (C : Addr) (cl : List (Str × Addr)) (fp : List Addr), PTs (X.blk s H scope (compEnvC scope cl C X.env) fp) ifs (TBT P cnd))
    (he : ∀ (s : Shared) (H : Hp) (C : Addr) (cl : List (Str × Addr)) (fp : List Addr), PE (X.blk s H scope (compEnvC scope cl C X.env) fp) e (TB P ce)) (hs : ∀ x, foldedSetIterable it X.env x = pure x) :
    PE X (.ListComp e [⟨tg, it, ifs, 0⟩] scope pos) (TOwn P (evOwn P.cal P.b0 (.comp kind its tgs one (own.map (·.2)) cnd ce))) :=
  PEw (pe_lc hc hN hi ok hg ht he hs) fun σ H Q ⟨ρ, G, fm, h⟩ => comp_own ⟨ρ, G, fm, by simpa only [evOwn] using h⟩
theorem own_ite {c : Expr} (hc : PT X c (TT' P cc)) (ha : PE X a (TOwn P (evOwn P.cal P.b0 ca))) (hb : PE X b (TOwn P (evOwn P.cal P.b0 cb))) : PE X (.IfExp c a b pos) (TOwn P (evOwn P.cal P.b0 (.ite cc ca cb))) := by
  refine PEw (pe_ifExp hc ha hb) fun σ H Q ⟨ρ, G, fm, h⟩ => ⟨ρ, G, fm, ?_⟩
  simp only [evOwn] at h
  cases hq : evT P.cal P.b0 cc ρ with
  | bad => rw [hq] at h; exact h.elim
  | er c f ρ1 => rw [hq] at h; exact h
  | ok k ρ1 =>
    rw [hq] at h
    simp only [Rs.bind_ok] at h
    intro b G1 H1 s1 fm1 e1
    have e2 : b = k := e1
    subst e2
    cases b with
    | true => exact iteT ⟨ρ1, G1, fm1, outO_mono s1 h⟩
    | false => exact iteF ⟨ρ1, G1, fm1, outO_mono s1 h⟩
/-- sorted(..) -/
theorem own_srt {p : Pos} (hK : X.K = P.K) (gl : Gl X "sorted") (hm : X.mg "sorted" = none) (hv : bootBuiltins "sorted" = some (.builtin "sorted")) (ha : PE X a (T P ca)) (h1 : starEach [a] X.env = (false, eval a X.env) :: starEach [] X.env) :
    PE X (.Call (.Name "sorted" p) [a] [] pos) (TOwn P (evOwn P.cal P.b0 (.blt .sorted [ca]))) := by
  refine PEw (pe_callB cr_sortedI gl hm hv (pa_cons ha pa_nil h1) (by decide) (by decide) h1 rfl) fun σ H Q ⟨ρ, G, fm, h⟩ => ⟨ρ, G, fm, ?_⟩
  simp only [evOwn] at h
  cases hq : ev P.cal P.b0 ca ρ with
  | bad => rw [hq] at h; exact h.elim
  | er c f ρ1 => rw [hq] at h; exact h
  | ok x ρ1 =>
    rw [hq] at h
    simp only [Rs.bind_ok] at h
    intro v G1 H1 s1 fm1 r1
    cases r1 with
    | @lst p xs ds p1 p2 =>
      simp only [sortedD] at h
      cases hz : intsOf ds with
      | none => rw [hz] at h; exact h.elim
      | some is =>
        rw [hz] at h
        simp only [Option.map_some] at h
        have := ints_of p2 hz
        subst this
        refine ⟨p, is, rfl, hK ▸ (Same.ls fm1.sub p1).seq, fun ns' q hp hs hn => ?_⟩
        obtain rfl := PySem.W.eq_sortI hp hs
        exact own_new fm1 (ints_rpA _) (fun p G' H' s' fm' q1 q2 q3 q4 q5 => h p _ G' H' (Same.trans s1 s') fm' q1 q2 q3 q4 q5) q hn
    | _ => exact h.elim
theorem s_own {i : Nat} {x : Str} {pos' : Pos} (hN : X.N.Nodup) (hi : X.N[i]? = some x) (hx : Loc X.env.scope x) (he : PE X e (TOwn P (evOwn P.cal P.b0 ce))) (hs : swapsWith e (some (.Name x pos')) pos.line X.env = pure false) (hf : X.fn x = true ∨ X.env.scope.names.lookup x = some .local) :
    PS X (.Assign [.Name x pos'] e pos) (TSt P (.own i ce)) := PSw (ps_set hN hi hx he hs hf) fun D σ H ⟨ρ, G, fm, h⟩ => by
  simp only [evS] at h
  exact ⟨ρ, G, fm, OutO.ex h fun ds ρ1 p xs G1 H1 s1 fm1 q1 q2 q3 q4 q5 h1 => OutS.setOwn h1 fm1 q1 q2 q3 q4 q5⟩
/-- name = a comprehension: its value goes straight to the name -/
theorem s_ownLc {i : Nat} {x : Str} {pos' : Pos} {kind : Nat} {tgs : List Nat} {one : Bool} {ifs : List Expr} {scope : Scope} {own : List (Str × Nat)} {cnd : Option CE} {spos : Pos} (hc : X.calm = true) (hN : X.N.Nodup) (hy : X.N[i]? = some x) (hyl : X.env.scope.names.lookup x = some .local)
    (hsw : swapsWith (.ListComp e [⟨tg, it, ifs, 0⟩] scope pos) (some (.Name x pos')) spos.line X.env = pure true) (hi : PI X tg it (TIt P kind its)) (ok : BlkOk X.N X.env.scope scope own)
    (hg : ∀ (s : Shared) (H : Hp) (C : Addr) (cl : List (Str × Addr)) (fp : List Addr), PG (X.blk s H scope (compEnvC scope cl C X.env) fp) tg (TBG P tgs one))
    (ht : ∀ (s : Shared) (H : Hp) (C : Addr) (cl : List (Str × Addr)) (fp : List Addr), PTs (X.blk s H scope (compEnvC scope cl C X.env) fp) ifs (TBT P cnd))
    (he : ∀ (s : Shared) (H : Hp) (C : Addr) (cl : List (Str × Addr)) (fp : List Addr), PE (X.blk s H scope (compEnvC scope cl C X.env) fp) e (TB P ce)) (hs : ∀ x, foldedSetIterable it X.env x = pure x) :
    PS X (.Assign [.Name x pos'] (.ListComp e [⟨tg, it, ifs, 0⟩] scope pos) spos) (TSt P (.own i (.comp kind its tgs one (own.map (·.2)) cnd ce))) :=
  PSw (ps_setLc hc hN hy hyl hsw hi ok hg ht he hs) fun D σ H ⟨ρ, G, fm, h⟩ => by
    simp only [evS, evOwn] at h
    exact comp_own ⟨ρ, G, fm, OutO.ex h fun ds ρ1 p xs G1 H1 s1 fm1 q1 q2 q3 q4 q5 h1 => OutS.setOwn h1 fm1 q1 q2 q3 q4 q5⟩
/-- a, b = e -/
theorem s_unp {is : List Nat} {es : List Expr} {kk : Nat} {p : Pos} (hK : X.K = P.K) (hc : X.calm = true) (hN : X.N.Nodup) (hn : NmOk X es is) (he : PE X e (T P ce)) (hs : swapsWithSole [.Tuple es kk p] e pos.line X.env = pure false) (hw : swappedStores [.Tuple es kk p] e X.env = pure none)
    (h1 : (assignEach [.Tuple es kk p] X.env).map (·.2) = [assign (.Tuple es kk p) X.env]) : PS X (.Assign [.Tuple es kk p] e pos) (TSt P (.unp is ce)) := PSw (ps_asg he (tg_many (P := P) hK hc hN hn) hs hw h1) fun D σ H ⟨ρ, G, fm, h⟩ => by
  simp only [evS] at h
  refine ⟨ρ, G, fm, OutS.ex h fun d ρ1 v G1 H1 s1 fm1 r1 h1 => ?_⟩
  cases hq : setTg P.b0 is false d ρ1 with
  | none => rw [hq] at h1; exact h1.elim
  | some ρ2 =>
    rw [hq] at h1
    exact ⟨ρ1, G1, d, ρ2, fm1, r1, hq, fun σ' fm' _ => h1 σ' G1 H1 (Same.refl G1) fm'⟩
end
end Ev

set_option Elab.async false
set_option linter.all false
set_option maxRecDepth 100000
set_option maxHeartbeats 2000000
namespace Ev
open PySem PySem.Spec PyProof.Rows L2
section
variable {X : Cx}
/-- a name += n -/
def ipD (op : Operator) : TIp := fun x y H Q => ∃ i j k, x = .int i ∧ y = .int j ∧ augD op (.int i) (.int j) = some (.int k) ∧ Q (.int k) H
theorem ip_D {op : Operator} : PIp X op (ipD op) := by
  intro pins s σ H x y v u Q I r1 r2 h
  obtain ⟨i, j, k, rfl, rfl, e, q⟩ := h
  cases op with
  | Add => cases e; exact ip_add pins s σ H _ _ _ _ Q I r1 r2 ⟨i, j, rfl, rfl, q⟩
  | Sub => cases e; exact ip_sub pins s σ H _ _ _ _ Q I r1 r2 ⟨i, j, rfl, rfl, q⟩
  | _ => cases e
theorem augD_int {op : Operator} {i : Int} {y d : D} (h : augD op (.int i) y = some d) : ∃ j k, y = .int j ∧ d = .int k := by
  cases op <;> cases y <;> first | (cases h; exact ⟨_, _, rfl, rfl⟩) | cases h
/-- xs[i], by values -/
def rGetL : V → V → Hp → VK → Prop := fun o i H Q => ∃ p xs k v, o = .ref p ∧ i = .int k ∧ H p = some (.lst xs) ∧ atI xs k = some v ∧ Q v H
theorem get_list : PGet X rGetL := by
  intro pins s σ H x y v u Q I rx ry h
  obtain ⟨p, xs, i, z, rfl, rfl, hq, he, q⟩ := h
  cases rx
  obtain ⟨t, rfl⟩ := ry
  obtain ⟨its, r, pl, hz⟩ := I.list (.inl (.inl hq))
  obtain ⟨j, h1, h2, h3, h4, h5⟩ := atI_get he
  obtain ⟨w, ew, rw'⟩ := r.get h2
  have hl := r.length
  have hn := line63
  have fin : EP X pins σ Q w s := ⟨z, H, I, rw', q⟩
  by_cases h0 : 0 ≤ i
  · have hj : i.toNat = j := by
      rw [seqIndex_of h0 h5] at h1
      exact Option.some.inj h1
    exact PySem.wpAny_getItem_list pl.isList h0 (by omega) (by rw [hj]; simpa using ew) fin
  · have hj : (i + (its.toArray.size : Int)).toNat = j := by
      rw [seqIndex_neg (by omega) h4] at h1
      rw [List.size_toArray, ← hl]
      exact Option.some.inj h1
    exact PySem.wpAny_getItem_list_neg pl.isList (by omega) (by rw [List.size_toArray] <;> omega) (by omega) (by rw [hj]; simpa using ew) fin
end
section
variable {P : Pm} {X : Cx} {a b c e tg it : Expr} {ca cb cc ce ci : CE} {cs its : List CE} {pos : Pos} {st : Stmt} {sts rest : List Stmt}
theorem ow_at {ρ : Ro} {G H : Hp} {σ : L2.St} {i : Nat} {ds : List D} (fm : P.Fm ρ G σ H) (h : ρ[i]? = some (some (.list ds, true))) : ∃ p xs, σ[i]? = some (some (.ref p)) ∧ H p = some (.lst xs) ∧ RpAll P.K G xs ds := by
  obtain ⟨p, xs, q1, q3, _, _, q6⟩ := fm.owL h
  exact ⟨p, xs, q1, q3, q6⟩
theorem s_app {i : Nat} {x : Str} {px apos cpos : Pos} (hi : X.N[i]? = some x) (hv : Vis X.env.scope x) (hd : (x == ("__debug__" : Str)) = false) (hcd : (x == ("__classdict__" : Str)) = false) (he : PE X e (T P ce))
    (h1 : attributeBase (.Name x px) "append" X.env (eval (.Name x px) X.env) = eval (.Name x px) X.env) (h2 : ((backTo cpos (starEach [e] X.env)).all (fun x => !x.1) && (backToKw cpos (keywordEach [] X.env)).all (fun x => x.1.isSome) && decide ([e].length + ([] : List Keyword).length + (if ([] : List Keyword).isEmpty then 0 else 1) < 30)) = true)
    (h3 : (apos.endLine == cpos.line) = true) (h4 : starEach [e] X.env = (false, eval e X.env) :: starEach [] X.env) (h5 : (backTo cpos (starEach [] X.env)).any (·.1) = false)
    (hs : swapsWith (.Call (.Attribute (.Name x px) "append" apos) [e] [] cpos) none pos.line X.env = pure false) : PS X (.Expr (.Call (.Attribute (.Name x px) "append" apos) [e] [] cpos) pos) (TSt P (.app i ce)) := by
  refine PSw (ps_expr (pe_bm PySem.F.plainAttrs_list PySem.F.slot_list_append PySem.F.type_list_append mt_append (pe_var hi hv hd hcd) (pa_cons he pa_nil h4) h1 h2 h3 h4 h5) hs) fun D σ H ⟨ρ, G, fm, h⟩ => ?_
  simp only [evS] at h
  cases hr : ρ[i]? with
  | none => rw [hr] at h; exact h.elim
  | some o =>
  match o, hr, h with
  | none, hr, h => rw [hr] at h; exact h.elim
  | some (d0, false), hr, h => rw [hr] at h; cases d0 <;> exact h.elim
  | some (.none, true), hr, h => rw [hr] at h; exact h.elim
  | some (.bool _, true), hr, h => rw [hr] at h; exact h.elim
  | some (.int _, true), hr, h => rw [hr] at h; exact h.elim
  | some (.str _, true), hr, h => rw [hr] at h; exact h.elim
  | some (.tuple _, true), hr, h => rw [hr] at h; exact h.elim
  | some (.dict _, true), hr, h => rw [hr] at h; exact h.elim
  | some (.list ds0, true), hr, h =>
    rw [hr] at h
    simp only at h
    obtain ⟨p, xs, q1, q3, _⟩ := ow_at fm hr
    refine ⟨_, q1, .inl ⟨rfl, xs, .inl (.inl q3)⟩, ρ, G, fm, OutS.ex h fun d ρ1 v G1 H1 s1 fm1 r1 h1 => ?_⟩
    cases hr1 : ρ1[i]? with
    | none => rw [hr1] at h1; exact h1.elim
    | some o1 =>
    match o1, hr1, h1 with
    | none, hr1, h1 => rw [hr1] at h1; exact h1.elim
    | some (d1, false), hr1, h1 => rw [hr1] at h1; cases d1 <;> exact h1.elim
    | some (d1, true), hr1, h1 =>
      rw [hr1] at h1
      cases d1 <;> try exact h1.elim
      rename_i es
      obtain ⟨p1, ys, w1, w3, w4⟩ := ow_at fm1 hr1
      rw [q1] at w1
      cases w1
      simp only at h1
      split at h1
      case isFalse => exact h1.elim
      case isTrue hl =>
      exact ⟨p, ys, v, rfl, rfl, w3, by rw [w4.length]; exact Nat.lt_of_lt_of_le hl (lim_le (Nat.le_refl _)), OutS.next h1 (fm_upd fm1 hr1 q1 (w4.snoc r1))⟩
theorem s_sub {i : Nat} {x : Str} {px ps : Pos} (hi : X.N[i]? = some x) (hv : Vis X.env.scope x) (hd : (x == ("__debug__" : Str)) = false) (hcd : (x == ("__classdict__" : Str)) = false) (hb : PE X b (T P cb)) (he : PE X e (T P ce))
    (ha : ∀ v, assign (.Subscript (.Name x px) b ps) X.env v = (do
      let ov ← holding [v] (eval (.Name x px) X.env)
      let iv ← holding [v, ov] (eval b X.env)
      standAt ps
      holding [v, ov, iv] (setItem ov iv v)
      release [v, ov, iv] []))
    (hs : swapsWithSole [.Subscript (.Name x px) b ps] e pos.line X.env = pure false) (hw : swappedStores [.Subscript (.Name x px) b ps] e X.env = pure none)
    (h1 : (assignEach [.Subscript (.Name x px) b ps] X.env).map (·.2) = [assign (.Subscript (.Name x px) b ps) X.env]) : PS X (.Assign [.Subscript (.Name x px) b ps] e pos) (TSt P (.sub i cb ce)) := by
  refine PSw (ps_asg he (pg_sub (pe_var hi hv hd hcd) hb set_list ha) hs hw h1) fun D σ H ⟨ρ, G, fm, h⟩ => ?_
  simp only [evS] at h
  cases hr : ρ[i]? with
  | none => rw [hr] at h; exact h.elim
  | some o =>
  match o, hr, h with
  | none, hr, h => rw [hr] at h; exact h.elim
  | some (d0, false), hr, h => rw [hr] at h; exact h.elim
  | some (d0, true), hr, h =>
    rw [hr] at h
    simp only at h
    obtain ⟨p, o0, q1, _⟩ := fm.ow i d0 hr
    refine ⟨ρ, G, fm, OutS.ex h fun d ρ1 v G1 H1 s1 fm1 r1 h1 => ⟨_, q1, ρ1, G1, fm1, OutS.ex h1 fun k ρ2 w G2 H2 s2 fm2 r2 h2 => ?_⟩⟩
    cases hr1 : ρ2[i]? with
    | none => rw [hr1] at h2; exact h2.elim
    | some o1 =>
    match o1, hr1, h2 with
    | none, hr1, h2 => rw [hr1] at h2; exact h2.elim
    | some (d1, false), hr1, h2 => rw [hr1] at h2; cases d1 <;> exact h2.elim
    | some (d1, true), hr1, h2 =>
      rw [hr1] at h2
      cases d1 <;> try exact h2.elim
      rename_i es
      obtain ⟨p1, ys, w1, w3, w4⟩ := ow_at fm2 hr1
      rw [q1] at w1
      cases w1
      cases r2 with
      | int j =>
        simp only at h2
        cases hx : ixN es.length j with
        | none => rw [hx] at h2; exact h2.elim
        | some m =>
          rw [hx] at h2
          exact ⟨p, ys, j, m, rfl, rfl, w3, by rw [w4.length]; exact hx, OutS.next h2 (fm_upd fm2 hr1 q1 (w4.set m (r1.mono s2)))⟩
      | _ => exact h2.elim
theorem s_aug {op : Operator} {i : Nat} {x : Str} {pos' : Pos} (hN : X.N.Nodup) (hi : X.N[i]? = some x) (hx : Loc X.env.scope x) (he : PE X e (T P ce)) (hf : X.fn x = true ∨ X.env.scope.names.lookup x = some .local) : PS X (.AugAssign (.Name x pos') op e pos) (TSt P (.aug op i ce)) := by
  refine PSw (ps_aug hN hi hx he ip_D hf) fun D σ H ⟨ρ, G, fm, h⟩ => ?_
  simp only [evS] at h
  cases hr : ρ[i]? with
  | none => rw [hr] at h; exact h.elim
  | some o =>
  match o, hr, h with
  | none, hr, h => rw [hr] at h; exact h.elim
  | some (d0, true), hr, h => rw [hr] at h; cases d0 <;> exact h.elim
  | some (d0, false), hr, h =>
    rw [hr] at h
    obtain ⟨v0, q1, q2⟩ := fm.un i d0 hr
    cases q2 with
    | int k =>
      simp only at h
      refine ⟨_, q1, ρ, G, fm, OutS.ex h fun y ρ1 v G1 H1 s1 fm1 r1 h1 => ?_⟩
      cases hg : augD op (.int k) y with
      | none => rw [hg] at h1; exact h1.elim
      | some d =>
        rw [hg] at h1
        obtain ⟨j, m, rfl, rfl⟩ := augD_int hg
        cases r1
        exact ⟨k, j, m, rfl, rfl, hg, OutS.set h1 fm1 (.int m)⟩
    | _ => exact h.elim
theorem s_aus {op : Operator} {i : Nat} {x : Str} {px ps : Pos} (hi : X.N[i]? = some x) (hv : Vis X.env.scope x) (hd : (x == ("__debug__" : Str)) = false) (hcd : (x == ("__classdict__" : Str)) = false) (hb : PE X b (T P cb)) (he : PE X e (T P ce))
    (ha : ∀ ov iv new, augStore b ov iv new = (do holding [new, ov, iv] (setItem ov iv new); release [new, ov, iv] []; pure .next)) : PS X (.AugAssign (.Subscript (.Name x px) b ps) op e pos) (TSt P (.aus op i cb ce)) := by
  refine PSw (ps_augS (pe_var hi hv hd hcd) hb get_list he ip_D set_list ha) fun D σ H ⟨ρ, G, fm, h⟩ => ?_
  simp only [evS] at h
  cases hr : ρ[i]? with
  | none => rw [hr] at h; exact h.elim
  | some o =>
  match o, hr, h with
  | none, hr, h => rw [hr] at h; exact h.elim
  | some (d0, false), hr, h => rw [hr] at h; exact h.elim
  | some (d0, true), hr, h =>
    rw [hr] at h
    simp only at h
    obtain ⟨p, o0, q1, _⟩ := fm.ow i d0 hr
    refine ⟨_, q1, ρ, G, fm, OutS.ex h fun k ρ1 v G1 H1 s1 fm1 r1 h1 => ?_⟩
    cases hr1 : ρ1[i]? with
    | none => rw [hr1] at h1; exact h1.elim
    | some o1 =>
    match o1, hr1, h1 with
    | none, hr1, h1 => rw [hr1] at h1; exact h1.elim
    | some (d1, false), hr1, h1 => rw [hr1] at h1; cases d1 <;> exact h1.elim
    | some (d1, true), hr1, h1 =>
      rw [hr1] at h1
      cases d1 <;> try exact h1.elim
      rename_i es
      obtain ⟨p1, ys, w1, w3, w4⟩ := ow_at fm1 hr1
      rw [q1] at w1
      cases w1
      cases r1 with
      | int j =>
        simp only at h1
        cases hx : ixN es.length j with
        | none => rw [hx] at h1; exact h1.elim
        | some m =>
          rw [hx] at h1
          simp only at h1
          cases hm : es[m]? with
          | none => rw [hm] at h1; exact h1.elim
          | some dm =>
            rw [hm] at h1
            obtain ⟨vm, e1, e2⟩ := w4.get hm
            cases e2 with
            | int z =>
              simp only at h1
              refine ⟨p, ys, j, .int z, rfl, rfl, w3, ?_, ρ1, G1, fm1, OutS.ex h1 fun y ρ2 w G2 H2 s2 fm2 r2 h2 => ?_⟩
              · unfold atI
                rw [w4.length, hx]
                exact e1
              · cases hr2 : ρ2[i]? with
                | none => rw [hr2] at h2; exact h2.elim
                | some o2 =>
                match o2, hr2, h2 with
                | none, hr2, h2 => rw [hr2] at h2; exact h2.elim
                | some (d2, false), hr2, h2 => rw [hr2] at h2; cases d2 <;> exact h2.elim
                | some (d2, true), hr2, h2 =>
                  rw [hr2] at h2
                  cases d2 <;> try exact h2.elim
                  rename_i es2
                  obtain ⟨p2, ys2, w1, w5, w6⟩ := ow_at fm2 hr2
                  rw [q1] at w1
                  cases w1
                  cases hg : augD op (.int z) y with
                  | none => rw [hg] at h2; exact h2.elim
                  | some d =>
                    rw [hg] at h2
                    obtain ⟨j2, m2, rfl, rfl⟩ := augD_int hg
                    cases r2
                    simp only at h2
                    split at h2
                    case isFalse => exact h2.elim
                    case isTrue hl =>
                    exact ⟨z, j2, m2, rfl, rfl, hg, p, ys2, j, m, rfl, rfl, w5, by rw [w6.length, hl]; exact hx, OutS.next h2 (fm_upd fm2 hr2 q1 (w6.set m (.int m2)))⟩
            | _ => exact h1.elim
      | _ => exact h1.elim
theorem s_for {kind : Nat} {tgs : List Nat} {one : Bool} {body : List Stmt} {cb : List CS} (hp : PassesOwn (model X.prog X.w) X.A X.env X.xe) (hc : X.calm = true) (hi : PI X tg it (TIt P kind its)) (hg : PG X tg (TTg P tgs one)) (hb : PSs X body (TSs P cb)) (hs : ∀ x, foldedSetIterable it X.env x = pure x) :
    PS X (.For tg it body [] pos) (TSt P (.fr kind its tgs one cb)) := by
  refine PSw (ps_for hp hc hi hg hb hs) fun D σ0 H0 ⟨ρ, G, fm, h⟩ => ?_
  simp only [evS] at h
  refine ⟨ρ, G, fm, OutS.ex h fun xs ρ1 J G1 H1 s1 fm1 wk h1 => ?_⟩
  refine ⟨fun i m σ H => m = xs.length - i ∧ i ≤ xs.length ∧ ∃ ρi Gi, Same G1 Gi ∧ P.Fm ρi Gi σ H ∧ OutS P Gi (forL (setTg P.b0 tgs one) (evB P.cal P.b0 cb) (xs.drop i) ρi) D, ⟨xs.length, by simp, Nat.zero_le _, ρ1, G1, Same.refl _, fm1, by simpa using h1⟩, ?_⟩
  rintro i m σ H ⟨rfl, hle, ρi, Gi, si, fmi, hf⟩
  obtain ⟨wgo, wst⟩ := wk Gi H si fmi.sub
  by_cases hlt : i < xs.length
  · right
    have hx : xs[i]? = some xs[i] := List.getElem?_eq_getElem hlt
    obtain ⟨go, yl⟩ := wgo i _ hx
    rw [List.drop_eq_getElem_cons hlt] at hf
    refine ⟨go, fun σ' H' => ∃ ρn Gn, Same G1 Gn ∧ P.Fm ρn Gn σ' H' ∧ OutS P Gn (forL (setTg P.b0 tgs one) (evB P.cal P.b0 cb) (xs.drop (i + 1)) ρn) D, fun σ' H' ⟨ρn, Gn, q1, q2, q3⟩ => ⟨xs.length - (i + 1), by omega, rfl, hlt, ρn, Gn, q1, q2, q3⟩, fun x H2 hy => ?_⟩
    obtain ⟨G2, ex, rx⟩ := yl x H2 hy
    unfold forL at hf
    cases hst : setTg P.b0 tgs one xs[i] ρi with
    | none => rw [hst] at hf; exact hf.elim
    | some ρ' =>
      rw [hst] at hf
      simp only at hf
      refine ⟨ρi, G2, xs[i], ρ', fmi.ext ex, rx, hst, fun σ2 fm2 _ => ⟨ρ', G2, fm2, ?_⟩⟩
      have hf' := OutS.mono ex.g hf
      cases hB : evB P.cal P.b0 cb ρ' with
      | nx ρ2 => rw [hB] at hf'; exact fun σ3 G3 H3 s3 fm3 => ⟨ρ2, G3, Same.trans si (Same.trans ex.g s3), fm3, OutS.mono s3 hf'⟩
      | ct ρ2 => rw [hB] at hf'; exact fun σ3 G3 H3 s3 fm3 => ⟨ρ2, G3, Same.trans si (Same.trans ex.g s3), fm3, OutS.mono s3 hf'⟩
      | bk ρ2 => rw [hB] at hf'; exact hf'
      | rt d ρ2 => rw [hB] at hf'; exact hf'
      | ro ds ρ2 => rw [hB] at hf'; exact hf'
      | er c f ρ2 => rw [hB] at hf'; exact hf'
      | bad => rw [hB] at hf'; exact hf'
  · left
    have e : i = xs.length := by omega
    subst e
    refine ⟨wst, ?_⟩
    rw [List.drop_length] at hf
    exact OutS.next hf fmi
theorem s_wh {c : Expr} {cc : CE} {body : List Stmt} {cb : List CS} (hp : PassesOwn (model X.prog X.w) X.A X.env X.xe) (hc : PT X c (TT' P cc)) (hb : PSs X body (TSs P cb)) : PS X (.While c body [] pos) (TSt P (.wh cc cb)) := by
  refine PSw (ps_while hp hc hb) fun D σ0 H0 ⟨ρ, G, fm, h⟩ => ?_
  simp only [evS] at h
  refine ⟨fun m σ H => ∃ ρi Gi, P.Fm ρi Gi σ H ∧ OutS P Gi (whL (evT P.cal P.b0 cc) (evB P.cal P.b0 cb) m ρi) D, ⟨100000, ρ, G, fm, h⟩, ?_⟩
  rintro m σ H ⟨ρi, Gi, fmi, hf⟩
  cases m with
  | zero => exact hf.elim
  | succ m =>
    unfold whL at hf
    refine ⟨ρi, Gi, fmi, OutS.ex hf fun b ρ1 b' G1 H1 s1 fm1 rb h1 => ?_⟩
    have e : b' = b := rb
    subst e
    cases b' with
    | false => exact iteF (OutS.next h1 fm1)
    | true =>
      refine iteT ⟨fun σ' H' => ∃ ρn Gn, P.Fm ρn Gn σ' H' ∧ OutS P Gn (whL (evT P.cal P.b0 cc) (evB P.cal P.b0 cb) m ρn) D, fun σ' H' q => ⟨m, Nat.lt_succ_self m, q⟩, ρ1, G1, fm1, ?_⟩
      have h2 : OutS P G1 (match evB P.cal P.b0 cb ρ1 with
        | .nx ρ2 => whL (evT P.cal P.b0 cc) (evB P.cal P.b0 cb) m ρ2
        | .ct ρ2 => whL (evT P.cal P.b0 cc) (evB P.cal P.b0 cb) m ρ2
        | .bk ρ2 => .nx ρ2
        | r => r) D := h1
      cases hB : evB P.cal P.b0 cb ρ1 with
      | nx ρ2 => rw [hB] at h2; exact fun σ3 G3 H3 s3 fm3 => ⟨ρ2, G3, fm3, OutS.mono s3 h2⟩
      | ct ρ2 => rw [hB] at h2; exact fun σ3 G3 H3 s3 fm3 => ⟨ρ2, G3, fm3, OutS.mono s3 h2⟩
      | bk ρ2 => rw [hB] at h2; exact h2
      | rt d ρ2 => rw [hB] at h2; exact h2
      | ro ds ρ2 => rw [hB] at h2; exact h2
      | er c f ρ2 => rw [hB] at h2; exact h2
      | bad => rw [hB] at h2; exact h2
end
end Ev

set_option Elab.async false
set_option linter.all false
set_option maxRecDepth 100000
set_option maxHeartbeats 2000000
namespace Ev
open PySem PySem.Spec PyProof.Rows L2
def SameW (P P' : Pm) : Prop := P'.K = P.K ∧ P'.mg = P.mg ∧ P'.io = P.io ∧ P'.cal = P.cal ∧ P'.W = P.W
theorem SameW.refl (P : Pm) : SameW P P := ⟨rfl, rfl, rfl, rfl, rfl⟩
def Pm.hid (P : Pm) (p : Addr) (xs : List V) : Pm := { P with Z := fun b => P.Z b ∨ b = p, H0 := fun b => if b = p then some (.lst xs) else P.H0 b }
inductive PaV (K : PySem.W.Frag) (Z : Addr → Prop) (G H : Hp) : List Addr → List V → List (D × Bool) → Prop
  | nil : PaV K Z G H [] [] []
  | own {p : Addr} {us : List Addr} {xs : List V} {ds : List D} {vs : List V} {rs : List (D × Bool)} : H p = some (.lst xs) → G p = none → ¬ Z p → RpAll K G xs ds → p ∉ us → PaV K Z G H us vs rs → PaV K Z G H (p :: us) (.ref p :: vs) ((.list ds, true) :: rs)
  | val {v : V} {d : D} {us : List Addr} {vs : List V} {rs : List (D × Bool)} : Rp K G v d → PaV K Z G H us vs rs → PaV K Z G H us (v :: vs) ((d, false) :: rs)
def NP (ρ : Ro) (σ : L2.St) (us : List Addr) : Prop := ∀ p ∈ us, ∀ (i : Nat) (d : D), ρ[i]? = some (some (d, true)) → σ[i]? ≠ some (some (.ref p))
theorem PaV.nz {K : PySem.W.Frag} {Z : Addr → Prop} {G H : Hp} {us : List Addr} {vs : List V} {rs : List (D × Bool)} (h : PaV K Z G H us vs rs) : ∀ p ∈ us, ¬ Z p := by
  induction h with
  | nil => intro p hp; cases hp
  | own h1 h2 h3 h4 h5 _ ih =>
    intro p hp
    rcases List.mem_cons.mp hp with e | e
    · rw [e]; exact h3
    · exact ih p e
  | val _ _ ih => exact ih
theorem PaV.less {K : PySem.W.Frag} {Z Z' : Addr → Prop} {G H : Hp} {us : List Addr} {vs : List V} {rs : List (D × Bool)} (hz : ∀ b, Z' b → Z b) (h : PaV K Z G H us vs rs) : PaV K Z' G H us vs rs := by
  induction h with
  | nil => exact .nil
  | own h1 h2 h3 h4 h5 _ ih => exact .own h1 h2 (fun z => h3 (hz _ z)) h4 h5 ih
  | val r _ ih => exact .val r ih
section
variable {P : Pm} {X : Cx} {a b c e : Expr} {ca cb cc ce : CE} {es : List Expr} {cs : List (Bool × CE)} {pos : Pos}
theorem fm_unhid {p : Addr} {xs : List V} {ρ : Ro} {G H : Hp} {σ : L2.St} (zp : ¬ P.Z p) (fm : (P.hid p xs).Fm ρ G σ H) : P.Fm ρ G σ H where
  sub := fm.sub
  len := fm.len
  un := fm.un
  ow := fun i d h => by
    obtain ⟨a, o, h1, h3, h4, h5, h6⟩ := fm.ow i d h
    exact ⟨a, o, h1, h3, h4, fun z => h5 (.inl z), h6⟩
  dis := fm.dis
  zg := fun b hb => by
    obtain ⟨q1, q2, q3⟩ := fm.zg b (.inl hb)
    have ne : b ≠ p := fun z => zp (by rw [← z]; exact hb)
    have e1 : (P.hid p xs).H0 b = P.H0 b := if_neg ne
    rw [e1] at q2 q3
    exact ⟨q1, q2, q3⟩
  at0 := fm.at0
def OutPa (P : Pm) (G : Hp) (σ : L2.St) (r : Rs (List (D × Bool))) (Q : List V → Hp → Prop) : Prop :=
  match r with
  | .ok ds ρ => ∀ us vs G' H', Same G G' → P.Fm ρ G' σ H' → PaV P.K P.Z G' H' us vs ds → NP ρ σ us → Q vs H'
  | .er c f ρ => ∀ cls dx G' H', Same G G' → P.Fm ρ G' σ H' → ErrV P c f cls dx G' → P.W cls dx σ H'
  | .bad => False
def TPa (P : Pm) (es : List (Bool × CE)) : TA := fun σ H Q => ∃ ρ G, P.Fm ρ G σ H ∧ OutPa P G σ (evPa P.cal P.b0 es ρ) Q
theorem pa_nilP : PA X [] (TPa P []) := PAw pa_nil fun σ H Q ⟨ρ, G, fm, h⟩ => by
  simp only [evPa] at h
  exact h [] [] G H (Same.refl G) fm .nil (fun p hp => by cases hp)
theorem pa_valP (he : PE X e (T P ce)) (hs : PA X es (TPa P cs)) (hst : starEach (e :: es) X.env = (false, eval e X.env) :: starEach es X.env) : PA X (e :: es) (TPa P ((false, ce) :: cs)) := by
  refine PAw (pa_cons he hs hst) fun σ H Q ⟨ρ, G, fm, h⟩ => ⟨ρ, G, fm, ?_⟩
  simp only [evPa] at h
  cases hq : ev P.cal P.b0 ce ρ with
  | bad => rw [hq] at h; exact h.elim
  | er c f ρ1 => rw [hq] at h; exact h
  | ok x ρ1 =>
    rw [hq] at h
    simp only [Rs.bind_ok] at h
    intro v G1 H1 s1 fm1 r1
    refine ⟨ρ1, G1, fm1, ?_⟩
    cases hq2 : evPa P.cal P.b0 cs ρ1 with
    | bad => rw [hq2] at h; exact h.elim
    | er c f ρ2 => rw [hq2] at h; exact fun cls dx G' H' s fm e => h cls dx G' H' (Same.trans s1 s) fm e
    | ok ds ρ2 =>
      rw [hq2] at h
      simp only [Rs.bind_ok] at h
      intro us vs G2 H2 s2 fm2 pv np
      exact h us (v :: vs) G2 H2 (Same.trans s1 s2) fm2 (.val (r1.mono s2) pv) np
theorem pa_ownP (he : PE X e (TOwn P (evOwn P.cal P.b0 ce))) (hs : ∀ P', SameW P P' → PA X es (TPa P' cs)) (hst : starEach (e :: es) X.env = (false, eval e X.env) :: starEach es X.env) : PA X (e :: es) (TPa P ((true, ce) :: cs)) := by
  have hs' : PA X es (fun σ H Q => ∃ P', SameW P P' ∧ TPa P' cs σ H Q) := ⟨fun pos pins s σ H Q I ⟨P', sw, q⟩ => (hs P' sw).run pos pins s σ H Q I q⟩
  refine PAw (pa_cons he hs' hst) fun σ H Q ⟨ρ, G, fm, h⟩ => ⟨ρ, G, fm, ?_⟩
  simp only [evPa] at h
  cases hq : evOwn P.cal P.b0 ce ρ with
  | bad => rw [hq] at h; exact h.elim
  | er c f ρ1 => rw [hq] at h; exact h
  | ok x ρ1 =>
    rw [hq] at h
    simp only [Rs.bind_ok] at h
    intro p xs G1 H1 s1 fm1 hp gp zp np rp
    have fm1' : (P.hid p xs).Fm ρ1 G1 σ H1 := fm_blk fm1 hp gp zp np
    refine ⟨P.hid p xs, ⟨rfl, rfl, rfl, rfl, rfl⟩, ρ1, G1, fm1', ?_⟩
    show OutPa (P.hid p xs) G1 σ (evPa P.cal P.b0 cs ρ1) _
    cases hq2 : evPa P.cal P.b0 cs ρ1 with
    | bad => rw [hq2] at h; exact h.elim
    | er c f ρ2 => rw [hq2] at h; exact fun cls dx G' H' s fm e => h cls dx G' H' (Same.trans s1 s) (fm_unhid zp fm) e
    | ok ds ρ2 =>
      rw [hq2] at h
      simp only [Rs.bind_ok] at h
      intro us vs G2 H2 s2 fm2 pv np2
      obtain ⟨b1, b2⟩ := blk_at (P := P) (D := p) (v := xs) fm2
      refine h (p :: us) (.ref p :: vs) G2 H2 (Same.trans s1 s2) (fm_unhid zp fm2) (.own b1 b2 zp (rp.mono s2) (fun z => pv.nz p z (.inr rfl)) (pv.less fun b hb => .inl hb)) ?_
      intro p' hp' i d hi
      rcases List.mem_cons.mp hp' with e | e
      · subst e
        obtain ⟨a, o, w1, _, _, w5, _⟩ := fm2.ow i d hi
        rw [w1]
        intro z
        cases z
        exact w5 (.inr rfl)
      · exact np2 p' e i d hi
def setV : List Nat → List V → L2.St → L2.St
  | i :: is, v :: vs, σ => setV is vs (σ.set i (some v))
  | _, _, σ => σ
theorem fm_setPa {G H : Hp} : ∀ {is : List Nat} {us : List Addr} {vs : List V} {ds : List (D × Bool)} {ρ ρ' : Ro} {σ : L2.St}, P.Fm ρ G σ H → PaV P.K P.Z G H us vs ds → NP ρ σ us → setPa P.b0 is ds ρ = some ρ' → P.Fm ρ' G (setV is vs σ) H ∧ vs.length = is.length
  | [], us, vs, ds, ρ, ρ', σ, fm, pv, np, e => by
    cases ds with
    | nil => cases pv; cases e; exact ⟨fm, rfl⟩
    | cons _ _ => cases e
  | i :: is, us, vs, ds, ρ, ρ', σ, fm, pv, np, e => by
    cases pv with
    | nil => cases e
    | @own p us xs ds1 vs rs q1 q2 q3 q4 q5 pv =>
      unfold setPa at e
      split at e
      · cases e
      · rename_i hc
        have h0 : P.io ≠ none → i ≠ 0 := fun hio hi => hc (by
          subst hi
          unfold Pm.b0
          cases hq : P.io with
          | none => exact absurd hq hio
          | some a => rfl)
        have np' : NP (ρ.set i (some (.list ds1, true))) (σ.set i (some (.ref p))) us := fun p' hp' j d hj => by
          by_cases hij : i = j
          · subst hij
            have il : i < ρ.length := by have := (List.getElem?_eq_some_iff.mp hj).1; rwa [List.length_set] at this
            rw [List.getElem?_set_self (by rw [← fm.len]; exact il)]
            intro z
            cases z
            exact q5 hp'
          · rw [List.getElem?_set_ne hij] at hj ⊢
            exact np p' (List.mem_cons_of_mem _ hp') j d hj
        obtain ⟨f1, f2⟩ := fm_setPa (fm_own fm q1 q2 q3 (np p List.mem_cons_self) q4 h0) pv np' e
        exact ⟨f1, by rw [List.length_cons, List.length_cons, f2]⟩
    | @val v d _ vs rs r pv =>
      unfold setPa at e
      split at e
      · cases e
      · rename_i hc
        have h0 : P.io ≠ none → i ≠ 0 := fun hio hi => hc (by
          subst hi
          unfold Pm.b0
          cases hq : P.io with
          | none => exact absurd hq hio
          | some a => rfl)
        have np' : NP (ρ.set i (some (d, false))) (σ.set i (some v)) us := fun p' hp' j d' hj => by
          by_cases hij : i = j
          · subst hij
            have il : i < ρ.length := by have := (List.getElem?_eq_some_iff.mp hj).1; rwa [List.length_set] at this
            rw [List.getElem?_set_self il] at hj
            cases hj
          · rw [List.getElem?_set_ne hij] at hj ⊢
            exact np p' hp' j d' hj
        obtain ⟨f1, f2⟩ := fm_setPa (fm.set r h0) pv np' e
        exact ⟨f1, by rw [List.length_cons, List.length_cons, f2]⟩
theorem outPa {G : Hp} {σ : L2.St} {ρ : Ro} {E : Ends} {is : List Nat} {Q : List V → Hp → Prop} (h : OutS P G ((evPa P.cal P.b0 cs ρ).st fun ds ρ1 => ofS (setPa P.b0 is ds ρ1)) E) (k : ∀ vs H', vs.length = is.length → E.nx (setV is vs σ) H' → Q vs H') : OutPa P G σ (evPa P.cal P.b0 cs ρ) Q := by
  cases hq : evPa P.cal P.b0 cs ρ with
  | bad => rw [hq] at h; exact h
  | er c f ρ1 => rw [hq] at h; exact fun cls dx G' H' s fm e => h σ cls dx G' H' s fm e
  | ok ds ρ1 =>
    rw [hq] at h
    intro us vs G' H' s fm pv np
    have h' : OutS P G (ofS (setPa P.b0 is ds ρ1)) E := h
    cases hs : setPa P.b0 is ds ρ1 with
    | none => rw [hs] at h'; exact h'.elim
    | some ρ2 =>
      rw [hs] at h'
      obtain ⟨f1, f2⟩ := fm_setPa fm pv np hs
      exact k vs H' f2 (h' _ G' H' s f1)
theorem s_par2 {i j : Nat} {x y : Str} {px py pt : Pos} {kt : Nat} {k2 pt2} (hc : X.calm = true) (hN : X.N.Nodup) (hi : X.N[i]? = some x) (hj : X.N[j]? = some y) (hij : i ≠ j)
    (hx : X.env.scope.names.lookup x = some .local) (hy : X.env.scope.names.lookup y = some .local) (ha : PA X [a, b] (TPa P cs))
    (hw : swappedStores [.Tuple [.Name x px, .Name y py] kt pt] (.Tuple [a, b] k2 pt2) X.env = pure (some [x, y]))
    (hs : swapsWithSole [.Tuple [.Name x px, .Name y py] kt pt] (.Tuple [a, b] k2 pt2) pos.line X.env = pure false) :
    PS X (.Assign [.Tuple [.Name x px, .Name y py] kt pt] (.Tuple [a, b] k2 pt2) pos) (TSt P (.par [i, j] cs)) := PSw (ps_par hc hN hi hj hij hx hy ha hw hs) fun D σ H ⟨ρ, G, fm, h⟩ => by
  simp only [evS] at h
  refine ⟨ρ, G, fm, outPa h fun vs H' hl hn => ?_⟩
  match vs, hl, hn with
  | [v, w], _, hn => exact ⟨v, w, rfl, hn⟩
theorem s_par3 {i j l : Nat} {x y z : Str} {px py pz pt : Pos} {kt : Nat} {k2 pt2} (hc : X.calm = true) (hN : X.N.Nodup) (hi : X.N[i]? = some x) (hj : X.N[j]? = some y) (hl : X.N[l]? = some z) (hij : i ≠ j) (hil : i ≠ l) (hjl : j ≠ l)
    (hx : X.env.scope.names.lookup x = some .local) (hy : X.env.scope.names.lookup y = some .local) (hz : X.env.scope.names.lookup z = some .local) (ha : PA X [a, b, c] (TPa P cs))
    (hw : swappedStores [.Tuple [.Name x px, .Name y py, .Name z pz] kt pt] (.Tuple [a, b, c] k2 pt2) X.env = pure (some [x, y, z]))
    (hs : swapsWithSole [.Tuple [.Name x px, .Name y py, .Name z pz] kt pt] (.Tuple [a, b, c] k2 pt2) pos.line X.env = pure false) :
    PS X (.Assign [.Tuple [.Name x px, .Name y py, .Name z pz] kt pt] (.Tuple [a, b, c] k2 pt2) pos) (TSt P (.par [i, j, l] cs)) := PSw (L2.ps_par3 hc hN hi hj hl hij hil hjl hx hy hz ha hw hs) fun D σ H ⟨ρ, G, fm, h⟩ => by
  simp only [evS] at h
  refine ⟨ρ, G, fm, outPa h fun vs H' hl hn => ?_⟩
  match vs, hl, hn with
  | [u, v, w], _, hn => exact ⟨u, v, w, rfl, hn⟩
theorem outPaT {G : Hp} {σ : L2.St} {ρ : Ro} {E : Ends} {is : List Nat} {Q : List V → Hp → Prop} (h : OutS P G ((evPa P.cal P.b0 cs ρ).st fun ds ρ1 => ofS (setPa P.b0 is ds ρ1)) E) (k : ∀ vs H', vs.length = is.length → (∀ p, H' p = none → E.nx (setV is vs σ) (upd H' p (.tup vs))) → Q vs H') : OutPa P G σ (evPa P.cal P.b0 cs ρ) Q := by
  cases hq : evPa P.cal P.b0 cs ρ with
  | bad => rw [hq] at h; exact h
  | er c f ρ1 => rw [hq] at h; exact fun cls dx G' H' s fm e => h σ cls dx G' H' s fm e
  | ok ds ρ1 =>
    rw [hq] at h
    intro us vs G' H' s fm pv np
    have h' : OutS P G (ofS (setPa P.b0 is ds ρ1)) E := h
    cases hs : setPa P.b0 is ds ρ1 with
    | none => rw [hs] at h'; exact h'.elim
    | some ρ2 =>
      rw [hs] at h'
      obtain ⟨f1, f2⟩ := fm_setPa fm pv np hs
      exact k vs H' f2 fun p hp => h' _ G' _ s (f1.ext (Ext.hid (o := .tup vs) f1.sub hp))
theorem names_setV {Q : L2.St → Hp → Prop} {H : Hp} : ∀ {is : List Nat} {vs : List V} {σ : L2.St}, vs.length = is.length → Q (setV is vs σ) H → gNames is vs σ H Q
  | [], [], σ, _, q => ⟨rfl, q⟩
  | i :: is, v :: vs, σ, hl, q => ⟨_, _, rfl, names_setV (is := is) (vs := vs) (σ := σ.set i (some v)) (by simpa using hl) q⟩
  | [], _ :: _, _, hl, _ => by cases hl
  | _ :: _, [], _, hl, _ => by cases hl
/-- names get a tuple's items, of which some are lists that nobody else holds -/
theorem s_upo {is : List Nat} {ts vs : List Expr} {kk k2 : Nat} {p p2 : Pos} (hc : X.calm = true) (hN : X.N.Nodup) (hn : NmOk X ts is) (hz : is.length ≤ 100) (ha : PA X vs (TPa P cs)) (hs : swapsWithSole [.Tuple ts kk p] (.Tuple vs k2 p2) pos.line X.env = pure false)
    (hw : swappedStores [.Tuple ts kk p] (.Tuple vs k2 p2) X.env = pure none) (h1 : (assignEach [.Tuple ts kk p] X.env).map (·.2) = [assign (.Tuple ts kk p) X.env]) : PS X (.Assign [.Tuple ts kk p] (.Tuple vs k2 p2) pos) (TSt P (.par is cs)) := by
  obtain ⟨l1, l2⟩ := nm_each hn
  refine PSw (ps_asg (pe_tup ha) (pg_tup hc (pgs_D hN hn) l1 l2) hs hw h1) fun D σ H ⟨ρ, G, fm, h⟩ => ?_
  simp only [evS] at h
  refine ⟨ρ, G, fm, outPaT h fun xs H' hl hq => ⟨?_, fun q hn' => ⟨q, xs, rfl, .inl (.inl upd_same), hl, names_setV hl (hq q hn')⟩⟩⟩
  rw [hl, sizeLine_eq]
  omega
end
end Ev

set_option Elab.async false
set_option linter.all false
set_option maxRecDepth 100000
set_option maxHeartbeats 2000000
namespace Ev
open PySem PySem.Spec PyProof.Rows L2
/-! ## enumerate(tuple) -/
set_option maxHeartbeats 1000000 in
theorem meets_enum1 {v : Value} {o : Obj} {H : Heap → Prop} (B : Begins v o H) :
    Meets (Builtin.«enumerate.__new__» ⟨[.type "enumerate", v], []⟩) (fun _ R s => H s.heap ∧
      R (.ok (.ret (.ref (s.heap.push o).objs.size))) { s with heap := (s.heap.push o).push { cls := .type "enumerate", data := .fields #[.none, .bool false, .ref s.heap.objs.size, rawInt 0, .none, .none] } }) :=
  .of_wp fun prog w A R s h => by
    obtain ⟨hp, g, d, tk, os⟩ := s; obtain ⟨h1, h⟩ := h
    have hsub := sub_enumerate
    have q1 : ∀ {A' : Around} {E : Value → Shared → Prop} {Q : Value → Shared → Prop}, Q (.ref hp.objs.size) ⟨hp.push o, g, d, tk, os⟩ → wpAny (model prog w) A' (pyIter v) Q E ⟨hp, g, d, tk, os⟩ :=
      fun q => B.iter prog w _ _ ⟨hp, g, d, tk, os⟩ _ h1 q
    wp_walk using q1
    refine wpAny_stack_any fun st => wpAny_pure ?_
    split
    · rename_i c _ _ _ _ _
      cases (c == Value.type "enumerate")
      · wp_walk using q1
        exact ⟨_, rfl, h⟩
      · wp_walk using q1
        exact ⟨_, rfl, h⟩
    · wp_walk using q1
      exact ⟨_, rfl, h⟩
section
variable {prog : Program} {w : World} {A : Around} {E : Value → Shared → Prop} {s : Shared}
theorem call_enum1 {v : Value} {o : Obj} {H : Heap → Prop} {Q : Value → Shared → Prop} (B : Begins v o H) (h1 : H s.heap)
    (h : ∀ h', IsEnum h' (s.heap.objs.size + 1) s.heap.objs.size 0 .none → h'.get? s.heap.objs.size = some o → h'.objs.size = s.heap.objs.size + 2 →
      (∀ b o, s.heap.get? b = some o → h'.get? b = some o) → Q (.ref (s.heap.objs.size + 1)) { s with heap := h' }) :
    wpAny (model prog w) A (call (.type "enumerate") [v]) Q E s := by
  refine callType_new F.called_enumerate (by decide) (F.typeCall_enumerate_1 _) (F.newCall_enumerate_1 _) (fun obj => F.args_object_init_2 obj _) F.entry_enumerate_new
    (meets_enum1 B) ⟨h1, ?_⟩
  have hz : (s.heap.push o).objs.size = s.heap.objs.size + 1 := Heap.size_push ..
  show _ ∧ _
  rw [hz]
  have he : IsEnum ((s.heap.push o).push { cls := .type "enumerate", data := .fields #[.none, .bool false, .ref s.heap.objs.size, rawInt 0, .none, .none] }) (s.heap.objs.size + 1) s.heap.objs.size 0 .none := by
    have := Heap.get?_push_size (s.heap.push o) (o := { cls := .type "enumerate", data := .fields #[.none, .bool false, .ref s.heap.objs.size, rawInt 0, .none, .none] }) rfl
    rw [hz] at this; exact this
  refine ⟨⟨_, he, rfl⟩, h _ he (Heap.get?_push_of_some _ (Heap.get?_push_size _ B.free)) (by rw [Heap.size_push, hz]) fun b o x => Heap.get?_push_of_some _ (Heap.get?_push_of_some _ x)⟩
theorem draws_tup (hh : A.handled = none) {it a : Addr} (items : Array Value) (hne : a ≠ it) : Draws prog w A it [it, a] items.size (fun i x => items[i]? = some x) (fun i h => h.IsTupleIter it a i ∧ h.IsTuple a items) where
  live := fun i h ⟨⟨o, ho, _⟩, _⟩ => ⟨o, ho⟩
  frame := fun i h h' ⟨h1, h2⟩ k => ⟨h1.at fun o q => k it (by simp) o q, h2.at fun o q => k a (by simp) o q⟩
  item := fun i s Q E hi ⟨h1, h2⟩ hQ => RZ.nextOf_tuple_item h1 h2 (x := items[i]) (Array.getElem?_eq_getElem hi) fun h' q1 q2 => hQ _ h' s.toks (Array.getElem?_eq_getElem hi) ⟨q1, h2.at fun o q => (q2.2 a hne).trans q⟩ q2
  done := fun s Q E ⟨h1, h2⟩ hE => RZ.nextOf_tuple_end hh h1 h2 (by simp) hE
end
/-- the tuple at a as it stands at each turn, each item in a new pair -/
def Ien (K : PySem.W.Frag) (a : Addr) : It :=
  ⟨fun i H => ∃ (xs : List V) (x : V), SqT K H a xs ∧ xs[i]? = some x, fun i H v H' => ∃ T x, v = .ref T ∧ H T = none ∧ H' = upd H T (.tup [.int (i : Nat), x]) ∧ ∀ xs, SqT K H a xs → xs[i]? = some x, fun i H => ∃ xs : List V, SqT K H a xs ∧ xs.length ≤ i⟩
theorem turn_en {P : Program} {w : World} {K : PySem.W.Frag} {elts : List Expr} {kk : Nat} {tpos : Pos} (a e it : Addr) :
    Turn P w K (.Tuple elts kk tpos) (Ien K a) [e, it] e (fun i h => (∃ old, IsEnum h e it ((i : Nat) : Int) old) ∧ h.IsTupleIter it a i ∧ e ≠ it ∧ i ≤ sizeLine) where
  mem := by simp
  obj := fun i h st b hb => by
    obtain ⟨⟨old, he⟩, ⟨o, ho, hc, hd⟩, _⟩ := st
    have e' : b = e ∨ b = it := by simpa using hb
    rcases e' with z | z
    · rw [z]; exact ⟨_, he, fun v q => nomatch q⟩
    · rw [z]; exact ⟨o, ho, fun v q => by rw [hd] at q; cases q⟩
  keep := fun i h h' st k => let ⟨⟨old, he⟩, hi, hne⟩ := st; ⟨⟨old, k e (by simp) _ he⟩, hi.at fun o q => k it (by simp) o q, hne⟩
  item := by
    intro X hP hw hK hc i pins s σ H E I hf st hg
    subst hP hw hK
    obtain ⟨⟨old, he⟩, hit, hne, hsz0⟩ := st
    obtain ⟨xs, x, hq, hx⟩ := hg
    obtain ⟨its, rv, p, hz⟩ := I.tuple hq
    have hel : e < s.heap.objs.size := Heap.lt_size he
    have hil : it < s.heap.objs.size := by obtain ⟨_, q, _⟩ := hit; exact Heap.lt_size q
    have hae : a ≠ e := fun z => by
      obtain ⟨o, ho, hc', _⟩ := p
      subst z
      rw [show s.heap.get? a = _ from he] at ho
      cases ho
      injection hc' with z
      exact absurd z (by decide)
    have hai : a ≠ it := fun z => by
      obtain ⟨o, ho, hc', _⟩ := p
      obtain ⟨o2, ho2, hc2, _⟩ := hit
      subst z
      rw [ho2] at ho
      cases ho
      rw [hc2] at hc'
      injection hc' with z
      exact absurd z (by decide)
    have hlen := rv.length
    have hi : i < its.toArray.size := by
      have := (List.getElem?_eq_some_iff.mp hx).1
      simp
      omega
    have hef : e ∉ [it, a] := fun z => by
      rcases List.mem_cons.mp z with z | z
      · exact hne z
      · exact hae (List.mem_singleton.mp z).symm
    refine wpAny_pyNext_enum_itemD (draws_tup (A := X.A.in1) (show X.A.in1.handled = none from I.ok.hd hc) its.toArray hai) he ⟨hit, p⟩ hi hne hef fun u h' tk hu ho hst' hT hsz hk => ?_
    obtain ⟨u', hu', ru⟩ := rv.get hx
    have eu : u = u' := by
      have hu2 : its[i]? = some u := by simpa using hu
      rw [hu'] at hu2
      exact (Option.some.inj hu2).symm
    subst eu
    refine ⟨_, rfl, wpAny_letOwnedTupleGo_enum (s := { s with heap := h', toks := tk + 1 }) ho fun h'' he' sb => ?_⟩
    have hT2 : h''.get? s.heap.objs.size = some { cls := .type "tuple", data := .seq #[.int i tk, u] } := (sb.2 _ (Nat.ne_of_gt hel)).trans hT
    have new : ObjOk X.prog X.w (upd H s.heap.objs.size (.tup [.int (i : Nat), x])) h'' s.heap.objs.size (.tup [.int (i : Nat), x]) :=
      ⟨by show 2 ≤ sizeLine; decide, [.int i tk, u], .cons ⟨_, rfl⟩ (.cons ru .nil), ⟨_, hT2, rfl, _, rfl⟩⟩
    have I1 : Inv X pins σ (upd H s.heap.objs.size (.tup [.int (i : Nat), x])) { s with heap := h'', toks := tk + 1 } :=
      I.turnedNew (t' := tk + 1) (ch := [e, it]) (fun b ob hb q => (sb.2 b (fun z => hb (by simp [z]))).trans (hk b ob (fun z => hb (by simp [z])) (fun z => hb (by simp [z])) q)) hf (Nat.le_refl _) new
    refine ⟨.ref s.heap.objs.size, _, I1, rfl, ⟨_, x, rfl, I.hok.fresh (Nat.le_refl _), rfl, fun ys hy => by rw [I.tuple_inj hy hq]; exact hx⟩, ⟨⟨u, ?_⟩, hst'.1.at fun o q => (sb.2 it (Ne.symm hne)).trans q, hne, ?_⟩, fun b hb => ?_⟩
    · have e1 : ((i + 1 : Nat) : Int) = (i : Int) + 1 := by omega
      rw [e1]; exact he'
    · have := (List.getElem?_eq_some_iff.mp hx).1
      omega
    · have hb' : b < s.heap.objs.size := by
        have e' : b = e ∨ b = it := by simpa using hb
        rcases e' with z | z
        · rw [z]; exact hel
        · rw [z]; exact hil
      rw [upd_ne (Nat.ne_of_lt hb')]
      exact (hf b hb).1
  done := by
    intro X hP hw hK hc i pins s σ H E I hf st hg
    subst hP hw hK
    obtain ⟨⟨old, he⟩, hit, hne, hsz0⟩ := st
    obtain ⟨xs, hq, hx⟩ := hg
    obtain ⟨its, rv, p, hz⟩ := I.tuple hq
    obtain ⟨f0, f1, f2, f3, f4, f5⟩ := hf it (by simp)
    have hl := rv.length
    have hT : s.TypeIs (.ref e) "enumerate" := ⟨_, he, rfl⟩
    unfold pyNext
    refine wpAny_bind (wpAny_attempt (wpAny_callSpecial?_slot (name := Str.ofString "__next__") hT F.slot_enumerate_next
      (wpAny_call_entry F.slot_enumerate_next hT F.entry_enumerate_next ?_ (F.args_enumerate_next_1 _))))
    show wpAny _ _ (field (.ref e) 2 >>= _) _ _ _
    refine wpAny_bind (wpAny_field he rfl (x := .ref it) rfl ?_)
    refine wpAny_bind (RZ.nextOf_tuple_end (I.ok.hd hc) hit p (by simp; omega) fun h' x he' hx' => ?_)
    obtain ⟨o, ho, hc'⟩ := hx'
    refine wpAny_bind (wpAny_isInstance (T := "StopIteration") (b := true) ⟨o, ho, hc'⟩ isSubtype_stop ?_)
    exact wpAny_pure ⟨rfl, I.turned (t' := s.toks) (fun b o hb q => he' b o hb q) f0 f1 f3 f4 f5⟩
  self := fun A i s Q E st h => let ⟨⟨_, he⟩, _⟩ := st; wpAny_pyIter_enum he h
def iEn (K : PySem.W.Frag) (ta : TA) : TI := fun σ H R => ta σ H fun vs H1 => ∃ a xs, vs = [.ref a] ∧ SqT K H1 a xs ∧ R (Ien K a) H1
theorem pi_en {X : Cx} {e : Expr} {ta : TA} {p pos tpos : Pos} {elts : List Expr} {kk : Nat} (hg : Gl X "enumerate") (hm : X.mg "enumerate" = none) (ha : PA X [e] ta) (hs : starEach [e] X.env = [(false, eval e X.env)]) :
    PI X (.Tuple elts kk tpos) (.Call (.Name "enumerate" p) [e] [] pos) (iEn X.K ta) := by
  refine ⟨fun pins s σ H R I h => ?_⟩
  refine Call_ (ld_blt I hg hm boot_enumerate (PyProof.Rows.callWith_type1 (thn (ha.run pos pins s σ H _ I h) fun us s1 ⟨vs, H1, I1, r1, q1⟩ => ?_) hs rfl))
  obtain ⟨a, xs, ex, hq, q⟩ := q1
  subst ex
  cases r1 with
  | cons r rr =>
    cases rr
    cases r
    obtain ⟨its, rv, p', hz⟩ := I1.tuple hq
    refine call_enum1 (begins_tuple a its.toArray) p' fun h' he hit hsz hk => wpAny_pyIter_enum he ?_
    have I2 : Inv X pins σ H1 { s1 with heap := h' } := I1.kept (t' := s1.toks) hk
    refine ⟨s1.heap.objs.size + 1, [s1.heap.objs.size + 1, s1.heap.objs.size], _, _, H1, rfl, I2, turn_en a (s1.heap.objs.size + 1) s1.heap.objs.size, ⟨⟨.none, he⟩, ⟨_, hit, rfl, rfl⟩, Nat.succ_ne_self _, Nat.zero_le _⟩, fun b hb => ?_, q⟩
    have e' : b = s1.heap.objs.size + 1 ∨ b = s1.heap.objs.size := by simpa using hb
    have hle : s1.heap.objs.size ≤ b := by
      rcases e' with z | z
      · rw [z]; exact Nat.le_add_right _ _
      · rw [z]; exact Nat.le_refl _
    exact I1.fpOk hle (I1.hok.fresh hle)
end Ev

set_option Elab.async false
set_option linter.all false
set_option maxRecDepth 100000
set_option maxHeartbeats 2000000
namespace Ev
open PySem PySem.Spec PyProof.Rows L2
theorem wlk_en {K : PySem.W.Frag} {G : Hp} {a : Addr} {xs : List V} {ds : List D} (h : SqT K G a xs) (r : RpAll K G xs ds) : Wlk K (Ien K a) G (enumL ds 0) := by
  intro G1 H1 s1 s2
  have hs : SqT K H1 a xs := Same.seqT s2 (Same.seqT s1 h)
  refine ⟨fun i d hd => ?_, ⟨xs, hs, by rw [enumL_length, r.length]; exact Nat.le_refl _⟩⟩
  obtain ⟨e, he, rfl⟩ := enumL_get hd
  obtain ⟨v, hv, rv⟩ := r.get he
  refine ⟨⟨xs, v, hs, hv⟩, fun x H2 hy => ?_⟩
  obtain ⟨p, y, rfl, hp, rfl, hy⟩ := hy
  have := hy xs hs
  rw [hv] at this
  cases this
  refine ⟨_, Ext.new s2 hp, .tup (SqT.of upd_same) ?_⟩
  rw [Nat.zero_add]
  exact .cons (.int _) (.cons ((rv.mono s1).mono (same_new (Same.none s2 hp))) .nil)
section
variable {P : Pm} {X : Cx} {a b e tg : Expr} {ca cb ce : CE} {cs : List CE} {pos p : Pos}
theorem ti_en {elts : List Expr} {kk : Nat} {tpos : Pos} (hK : X.K = P.K) (gl : Gl X "enumerate") (hm : X.mg "enumerate" = none) (ha : PE X a (T P ca)) (hs : starEach [a] X.env = [(false, eval a X.env)]) :
    PI X (.Tuple elts kk tpos) (.Call (.Name "enumerate" p) [a] [] pos) (TIt P 6 [ca]) := by
  refine PIw (pi_en gl hm (ta_cons ha ta_nil hs) hs) fun σ H R ⟨ρ, G, fm, h⟩ => ⟨ρ, G, fm, ?_⟩
  simp only [evA, Rs.assoc] at h ⊢
  cases hq : ev P.cal P.b0 ca ρ with
  | bad => rw [hq] at h; exact h.elim
  | er c f ρ' => rw [hq] at h; exact h
  | ok d ρ1 =>
    rw [hq] at h
    intro vs G1 H1 s1 fm1 r1
    have h1 := Out.mono s1 h
    simp only [Rs.bind_ok] at h1
    cases r1 with
    | cons r rr =>
      cases rr
      cases r with
      | @tup q xs ds q1 q2 =>
        rw [hK]
        exact ⟨q, xs, rfl, Same.seqT fm1.sub q1, Out.ret h1 fm1 (wlk_en q1 q2)⟩
      | _ => exact h1.elim
theorem tit_kind {k k' : Nat} {cs : List CE} {σ : L2.St} {H : Hp} {R : It → Hp → Prop} {ρ : Ro} {G : Hp} (fm : P.Fm ρ G σ H) (e : ∀ ds ρ1, evA P.cal P.b0 cs ρ = .ok ds ρ1 → itemsD k ds = itemsD k' ds) (h : Out P (fun G J xs => Wlk P.K J G xs) G σ ((evA P.cal P.b0 cs ρ).bind fun ds ρ1 => ofO (itemsD k ds) ρ1) R) : TIt P k' cs σ H R := by
  refine ⟨ρ, G, fm, ?_⟩
  cases hq : evA P.cal P.b0 cs ρ with
  | bad => rw [hq] at h; exact h
  | er c f ρ' => rw [hq] at h; exact h
  | ok ds ρ1 =>
    rw [hq] at h
    simp only [Rs.bind_ok] at h ⊢
    rw [← e ds ρ1 hq]
    exact h
theorem evA_one {cal : Cal} {b0 : Bool} {c : CE} {ρ : Ro} {ds : List D} {ρ1 : Ro} (h : evA cal b0 [c] ρ = .ok ds ρ1) : ∃ d, ev cal b0 c ρ = .ok d ρ1 ∧ ds = [d] := by
  simp only [evA] at h
  cases hq : ev cal b0 c ρ with
  | bad => rw [hq] at h; cases h
  | er _ _ _ => rw [hq] at h; cases h
  | ok d ρ2 =>
    rw [hq] at h
    simp only [Rs.bind_ok, Rs.ok.injEq] at h
    exact ⟨d, by rw [h.2], h.1.symm⟩
/-- over a list, a tuple or a text -/
theorem ti_any (hK : X.K = P.K) (ha : PE X a (T P ca)) : PI X tg a (TIt P 9 [ca]) := ⟨fun pins s σ H R I ⟨ρ, G, fm, h⟩ => by
  cases hq : ev P.cal P.b0 ca ρ with
  | bad => simp only [evA, hq] at h; exact h.elim
  | er c f ρ' => exact (ti_list hK ha).run pins s σ H R I (tit_kind fm (fun ds ρ1 e => by obtain ⟨d, e1, _⟩ := evA_one e; rw [hq] at e1; cases e1) h)
  | ok d ρ1 =>
    have key : ∀ k, itemsD 9 [d] = itemsD k [d] → TIt P k [ca] σ H R := fun k hk => tit_kind fm (fun ds ρ2 e => by obtain ⟨d', e1, rfl⟩ := evA_one e; rw [hq] at e1; cases e1; exact hk) h
    cases d with
    | list xs => exact (ti_list hK ha).run pins s σ H R I (key 0 rfl)
    | tuple xs => exact (ti_tup hK ha).run pins s σ H R I (key 4 rfl)
    | str xs => exact (ti_str ha).run pins s σ H R I (key 5 rfl)
    | _ => simp only [evA, hq] at h; exact h.elim⟩
theorem ti_enA {elts : List Expr} {kk : Nat} {tpos : Pos} (hK : X.K = P.K) (gl : Gl X "enumerate") (hm : X.mg "enumerate" = none) (ha : PE X a (T P ca)) (hs : starEach [a] X.env = [(false, eval a X.env)]) :
    PI X (.Tuple elts kk tpos) (.Call (.Name "enumerate" p) [a] [] pos) (TIt P 10 [ca]) := ⟨fun pins s σ H R I ⟨ρ, G, fm, h⟩ => by
  cases hq : ev P.cal P.b0 ca ρ with
  | bad => simp only [evA, hq] at h; exact h.elim
  | er c f ρ' => exact (ti_enum hK gl hm ha hs).run pins s σ H R I (tit_kind fm (fun ds ρ1 e => by obtain ⟨d, e1, _⟩ := evA_one e; rw [hq] at e1; cases e1) h)
  | ok d ρ1 =>
    have key : ∀ k, itemsD 10 [d] = itemsD k [d] → TIt P k [ca] σ H R := fun k hk => tit_kind fm (fun ds ρ2 e => by obtain ⟨d', e1, rfl⟩ := evA_one e; rw [hq] at e1; cases e1; exact hk) h
    cases d with
    | list xs => exact (ti_enum hK gl hm ha hs).run pins s σ H R I (key 2 rfl)
    | tuple xs => exact (ti_en hK gl hm ha hs).run pins s σ H R I (key 6 rfl)
    | _ => simp only [evA, hq] at h; exact h.elim⟩
end
end Ev

set_option Elab.async false
set_option linter.all false
set_option maxRecDepth 100000
set_option maxHeartbeats 2000000
namespace Ev
open PySem PySem.Spec PyProof.Rows L2
section
variable {prog : Program} {w : World} {A : Around} {E : Value → Shared → Prop} {s : Shared} {l : Addr} {its : List Value} {ns : List Int} {Q : Value → Shared → Prop} {d : Value}
theorem min_dflt (hh : A.handled = none) (hl : s.heap.IsList l its.toArray) (hi : IntsAre its ns) (h0 : ns = [] → ∀ h' tk, (∀ b o, s.heap.get? b = some o → h'.get? b = some o) → Q d { s with heap := h', toks := tk })
    (h : 0 < ns.length → ∀ h' tk M t', (∀ b o, s.heap.get? b = some o → h'.get? b = some o) → M ∈ ns → (∀ a, a ∈ ns → M ≤ a) → Q (.int M t') { s with heap := h', toks := tk }) : wpAny (model prog w) A (call (.builtin "min") [.ref l] [(Str.ofString "default", d)]) Q E s := by
  obtain ⟨xs, e⟩ := hi.allInts.items
  have hn : numsOf (intItems xs).toList = ns := by rw [← e]; exact hi.numsOf
  rw [nums_intItems] at hn
  subst hn
  rw [e] at hl
  refine call_min_walkD (PySem.W.iter_listW (A := A.in1) hh hl fun s₂ e W st hfp hw hk => ?_)
  have hz : (intItems xs).size = xs.size := by simp [intItems]
  refine ⟨_, _, _, _, _, _, _, s.heap, (fun i j => decide (numAt xs i < numAt xs j)), rfl, W, st, hfp, hw, hk, fun hz0 s' m => ?_, fun hp => ⟨fun i j vi vj s3 Q3 E3 _ hi hj hq => CmpOf.ints_lt (numAt xs) (fun _ _ => intItems_at) i j vi vj s3 Q3 E3 hi hj hq, fun v s' hP m => ?_⟩⟩
  · obtain ⟨h', tk, rfl, hk'⟩ := PySem.W.moved_old e rfl m
    rw [hz] at hz0
    exact h0 (by simp [Array.size_eq_zero_iff.mp hz0]) h' tk hk'
  · obtain ⟨h', tk, rfl, hk'⟩ := PySem.W.moved_old e rfl m
    rw [hz] at hP hp
    obtain ⟨t, rfl⟩ := intItems_at hP
    obtain ⟨h1, h2⟩ := argBest_lt (numAt xs) (xs.size - 1)
    refine h (by simpa using hp) h' tk _ t hk' ?_ fun a ha => ?_
    · rw [numAt_eq]; exact PySem.getD_mem (by rw [List.length_map, Array.length_toList]; omega)
    · obtain ⟨j, hj, rfl⟩ := mem_getD ha
      rw [List.length_map, Array.length_toList] at hj
      rw [← numAt_eq]; exact h2 j (by omega)
end
section
variable {P : Pm} {X : Cx} {a b e tg : Expr} {ca cb ce : CE} {cs : List CE} {pos p : Pos}
def rMnd (K : PySem.W.Frag) : List V → List V → Hp → VK → Prop := fun xs zs H Q => ∃ G v w x y d, xs = [v] ∧ zs = [w] ∧ Same G H ∧ Rp K G v x ∧ Rp K G w y ∧ mndD x y = some d ∧ Giv K G H d Q
theorem cb_mnd (hc : X.calm = true) : CallRK X (.builtin "min") ["default"] (rMnd X.K) := by
  rintro pins s σ H xs zs us ws Q I r rz ⟨G, v, w, x, y, d, rfl, rfl, sg, h, hw, e, g⟩
  obtain ⟨u, rfl, ru⟩ := vals1 r
  obtain ⟨u', rfl, ru'⟩ := vals1 rz
  cases h with
  | @lst a vs ys h1 h2 =>
    simp only [mndD] at e
    cases hq : intsOf ys with
    | none => rw [hq] at e; cases e
    | some is =>
      rw [hq] at e
      have := ints_of h2 hq
      subst this
      cases ru
      obtain ⟨its, rv, hl, _⟩ := I.list (Same.ls sg h1).seq
      refine min_dflt (ns := is) (I.ok.hd hc) hl.isList rv.ints (fun h0 h' tk hk => ?_) fun hne h' tk m t' hk m1 m2 => ?_
      · subst h0
        cases e
        exact ⟨w, H, I.kept hk, ru', g.sc sg hw⟩
      · cases is with
        | nil => cases hne
        | cons b bs =>
          cases e
          obtain ⟨l1, l2, l3⟩ := lowL_spec b bs
          have : m = lowL b bs := by
            have q1 : m ≤ lowL b bs := by
              rcases l1 with l | l
              · rw [l]; exact m2 b List.mem_cons_self
              · exact m2 _ (List.mem_cons_of_mem _ l)
            have q2 : lowL b bs ≤ m := by
              rcases List.mem_cons.mp m1 with l | l
              · rw [l]; exact l2
              · exact l3 m l
            omega
          subst this
          exact ⟨.int _, H, I.kept hk, ⟨_, rfl⟩, g.int sg⟩
  | _ => cases e
theorem boot_min : bootBuiltins "min" = some (.builtin "min") := by decide +kernel
theorem t_mnd {kp : Pos} (hK : X.K = P.K) (hc : X.calm = true) (gl : Gl X "min") (hm : X.mg "min" = none) (ha : PE X a (T P ca)) (hb : PE X b (T P cb)) (hs : starEach [a] X.env = (false, eval a X.env) :: starEach [] X.env) :
    PE X (.Call (.Name "min" p) [a] [⟨some "default", b, kp⟩] pos) (T P (.mnd ca cb)) := by
  refine PEw (pe_callBK (cb_mnd hc) gl hm boot_min (pa_cons ha pa_nil hs) (pk_cons hb pk_nil) (by decide) (by decide) (by rw [hs]; rfl) (by rw [hs]; rfl) rfl rfl rfl) fun σ H Q ⟨ρ, G, fm, h⟩ => ⟨ρ, G, fm, ?_⟩
  simp only [ev] at h
  refine Out.bind h fun x ρ1 v G1 H1 s1 fm1 r1 h1 => ?_
  refine ⟨ρ1, G1, fm1, ?_⟩
  refine Out.bind h1 fun y ρ2 w G2 H2 s2 fm2 r2 h2 => ?_
  obtain ⟨d, e1, g⟩ := h2.giveO fm2
  rw [hK]
  exact ⟨G2, v, w, x, y, d, rfl, rfl, fm2.sub, r1.mono s2, r2, e1, g⟩
theorem wlk_rev {K : PySem.W.Frag} {G : Hp} {a : Addr} {xs : List V} {ds : List D} (h : Ls K G a xs) (r : RpAll K G xs ds) : Wlk K (Itv K a xs.length) G ds.reverse := by
  intro G1 H1 s1 s2
  have hs : SqL K H1 a xs := (Same.ls s2 (Same.ls s1 h)).seq
  refine ⟨fun i d hd => ?_, by show xs.length ≤ _; rw [List.length_reverse, r.length]; exact Nat.le_refl _⟩
  have hi : i < ds.length := by
    obtain ⟨h1, _⟩ := List.getElem?_eq_some_iff.mp hd
    simpa using h1
  rw [List.getElem?_reverse hi] at hd
  have hl := r.length
  rw [show ds.length - 1 - i = xs.length - 1 - i by omega] at hd
  obtain ⟨v, hv, rv⟩ := r.get hd
  refine ⟨⟨by omega, xs, v, hs, hv⟩, fun x H2 hy => ?_⟩
  obtain ⟨rfl, hy⟩ := hy
  have := hy xs hs
  rw [hv] at this
  cases this
  exact ⟨G1, Ext.refl s2, rv.mono s1⟩
/-- reversed(a list) -/
theorem ti_rev (hK : X.K = P.K) (gl : Gl X "reversed") (hm : X.mg "reversed" = none) (ha : PE X a (T P ca)) (hs : starEach [a] X.env = (false, eval a X.env) :: starEach [] X.env) : PI X tg (.Call (.Name "reversed" p) [a] [] pos) (TIt P 12 [ca]) := by
  refine PIw (RT.pi_revA gl hm ha hs) fun σ H R ⟨ρ, G, fm, h⟩ => ⟨ρ, G, fm, ?_⟩
  simp only [evA, Rs.assoc] at h
  refine Out.bind h fun x ρ1 v G1 H1 s1 fm1 r1 h1 => ?_
  simp only [Rs.bind_ok] at h1
  cases r1 with
  | @lst q xs ds q1 q2 =>
    rw [hK]
    exact ⟨q, xs, rfl, .inl ⟨(Same.ls fm1.sub q1).seq, Out.ret h1 fm1 (wlk_rev q1 q2)⟩⟩
  | _ => exact h1.elim
end
end Ev

set_option Elab.async false
set_option linter.all false
set_option maxRecDepth 100000
set_option maxHeartbeats 3200000
namespace Ev
open PySem PySem.Spec PyProof.Rows L2
/-! ## set(a list of integers) -/
/-- a set as it is made -/
abbrev bareS (w : World) : Obj := { cls := .type "set", dict := none, data := .set #[] 0 (.fresh 0 0 (!w.params.followText "set-order")) }
section
variable {P : Program} {w : World} {A : Around} {E : Value → Shared → Prop} {s : Shared}
/-- what the new set is filled with -/
def Filled (w : World) (s : Shared) (ns : List Int) (s' : Shared) : Prop := ∃ (g : Heap) (tk c : Nat), s' = { s with heap := g, toks := tk } ∧ SetR w g s.heap.objs.size (fun j => decide (j ∈ ns)) c ∧ c ≤ ns.length ∧ ∀ b o, s.heap.get? b = some o → g.get? b = some o
theorem vals_at {xs : Array Value} {ns : List Int} (hi : IntsAre xs.toList ns) (hz : xs.size = ns.length) {i : Nat} {v : Value} (hv : xs[i]? = some v) : ∃ k t, ns[i]? = some k ∧ v = .int k t := by
  have h : i < ns.length := hz ▸ (Array.getElem?_eq_some_iff.mp hv).1
  obtain ⟨t, e⟩ := hi.int_at i v (by rw [Array.getElem?_toList]; exact hv)
  exact ⟨ns[i], t, List.getElem?_eq_getElem h, by rw [e, List.getD_eq_getElem?_getD, List.getElem?_eq_getElem h] <;> rfl⟩
theorem set_of_list {l : Addr} {xs : Array Value} {ns : List Int} {Q : Value → Shared → Prop} (hh : A.handled = none) (hl : s.heap.IsList l xs) (hi : IntsAre xs.toList ns) (hb : ns.length + 1 < scanBound)
    (q : ∀ s', Filled w s ns s' → Q (.ref s.heap.objs.size) s') : wpAny (model P w) A (call (.type "set") [.ref l]) Q E s := by
  have hz : xs.size = ns.length := by
    have := hi.length
    rwa [Array.length_toList] at this
  obtain ⟨c, tl, hmro⟩ := F.called_set.mro
  have hmade := F.called_set.made
  have hsub := F.called_set.sub
  refine wpAny_call (codeAny_of_tree ?_)
  show wpAny _ _ (callAny (.type "set") _) _ _ _
  refine wpAny_pure ⟨Code.quiet_builtin _ (by decide +kernel), codeAny_builtin F.entry_type_call ?_⟩
  rw [Around.under_plain (weight_type_call_type "set" [.ref l] []) rfl]
  have h1 := F.called_set.notType
  have h2 := F.called_set.canCreate
  have hct := F.typeCall_set_1 (.ref l)
  repeat (any_goals (first | assumption | wp_step))
  refine codeAny_mono (code_set_led1 (.ref l) (E := E) (Q₁ := fun v t => v = .ref s.heap.objs.size ∧ t = { s with heap := s.heap.push (bareS w) }) ⟨rfl, rfl⟩) fun r t hr => ?_
  cases r with
  | error e => exact hr
  | ok fl =>
    cases fl with
    | ret v =>
      obtain ⟨rfl, rfl⟩ := hr
      have hS : (s.heap.push (bareS w)).get? s.heap.objs.size = some (bareS w) := Heap.get?_push_size _ rfl
      have hT : Shared.TypeIs { s with heap := s.heap.push (bareS w) } (.ref s.heap.objs.size) "set" := ⟨_, hS, rfl⟩
      have hli := F.called_set.init.lookup
      have hbi := F.called_set.init.bind (.ref s.heap.objs.size)
      repeat (any_goals (first | assumption | wp_step))
      refine codeAny_mono (codeAny_call_builtin (R := wants (fun r t => r = .none ∧ Filled w s ns t) E) F.called_set.init.plain F.entry_set_init (check_set_init_1 hT ?_)) fun r t hr => ?_
      · have hlt : l < s.heap.objs.size := by
          obtain ⟨o, e, _⟩ := hl
          exact Heap.lt_size e
        have hlp : (s.heap.push (bareS w)).IsList l xs := hl.push _
        obtain ⟨o1, g1, gc, m1, gd⟩ := id hlp
        obtain ⟨cls1, dict1, data1, slots1⟩ := o1
        simp only at gc gd
        subst gc gd
        have k1 := F.sub_list_set
        have k2 := F.sub_list_frozenset
        have k3 : (Value.type "list" == Value.type "dict") = false := by decide
        unfold Builtin.«set.__init__» noKeywords Builtin.Frozenset.updateFrom
        generalize hp : pyIter = it
        wp_walk
        subst hp
        refine wpAny_pyIter_list hlp ?_
        refine wpAny_bind (wpAny_runValue ?_)
        have hz1 : (s.heap.push (bareS w)).objs.size = s.heap.objs.size + 1 := Heap.size_push ..
        have n1 : l ≠ (s.heap.push (bareS w)).objs.size := by rw [hz1]; exact Nat.ne_of_lt (Nat.lt_succ_of_lt hlt)
        have n2 : s.heap.objs.size ∉ [(s.heap.push (bareS w)).objs.size, l] := fun z => by
          rw [hz1] at z
          rcases List.mem_cons.mp z with z | z
          · exact Nat.ne_of_lt (Nat.lt_succ_self _) z
          · exact Nat.ne_of_gt hlt (List.mem_singleton.mp z)
        refine set_update_ints ((Walks.list (A := A.in1.in1.in1) (by simp [hh]) _ l n1 xs).toS) s.heap.objs.size n2 ns hz hb (fun i v hv => vals_at hi hz hv) (xs.size - 0) 0 _ (by omega) (Nat.zero_le _) ⟨⟨_, Heap.get?_push_size _ rfl, rfl, rfl⟩, hlp.push _⟩ ⟨0, Nat.le_refl 0, setR_new_at (Heap.get?_push_of_some _ hS)⟩ ?_
        intro s2 c2 hm hc2 hR
        obtain ⟨g2, gens2, d2, tk2, os2⟩ := s2
        have eg : gens2 = s.gens := hm.gens
        have ed : d2 = s.drawn := hm.drawn
        have eo : os2 = s.os := hm.os
        subst eg ed eo
        show wpAny _ _ _ _ _ _
        refine wpAny_pure ?_
        show wpAny _ _ (ret Value.none) _ _ _
        refine wpAny_pure ⟨rfl, g2, tk2, c2, rfl, hR, by omega, fun b o e => ?_⟩
        have hb0 := Heap.lt_size e
        refine hm.heap b o (fun z => ?_) (Heap.get?_push_of_some _ (Heap.get?_push_of_some _ e))
        rcases List.mem_cons.mp z with z | z
        · exact Nat.ne_of_lt hb0 z
        · have z2 := List.mem_singleton.mp z
          rw [hz1] at z2
          exact Nat.ne_of_lt (Nat.lt_succ_of_lt hb0) z2
      · cases r with
        | error e => exact hr
        | ok fl =>
          cases fl with
          | ret v =>
            obtain ⟨rfl, hf⟩ := hr
            repeat (any_goals (first | assumption | wp_step))
            exact q _ hf
          | _ => exact hr
    | _ => exact hr
end
end Ev

set_option Elab.async false
set_option linter.all false
set_option maxRecDepth 100000
set_option maxHeartbeats 3200000
namespace Ev
open PySem PySem.Spec PyProof.Rows L2
/-! ## sorted(set(a list of integers)) -/
def tSrs (K : PySem.W.Frag) (ta : TE) : TE := fun σ H Q => ta σ H fun x H1 => ∃ (l : Addr) (ns : List Int), x = .ref l ∧ SqL K H1 l (ns.map V.int) ∧ ns.length < 64 ∧
  ∀ (ms : List Int) (p : Addr), ms.Pairwise (· < ·) → (∀ k, k ∈ ms ↔ k ∈ ns) → H1 p = none → Q (.ref p) (upd H1 p (.lst (ms.map V.int)))
section
variable {X : Cx} {a : Expr} {ta : TE} {p p2 q pos : Pos}
theorem pe_srs (hc : X.calm = true) (hg : Gl X "sorted") (hm : X.mg "sorted" = none) (hg2 : Gl X "set") (hm2 : X.mg "set" = none) (ha : PE X a ta) (na : starEach [a] X.env = (false, eval a X.env) :: starEach [] X.env) :
    PE X (.Call (.Name "sorted" p) [.Call (.Name "set" p2) [a] [] q] [] pos) (tSrs X.K ta) := by
  refine ⟨fun pins s σ H Q I h => ?_⟩
  refine Call_ (ld_blt I hg hm PyProof.Rows.boot_sorted ?_)
  refine PyProof.Rows.callWith_builtin1 (PyProof.Rows.args_cons ?_ rfl) rfl rfl
  refine Call_ (ld_blt I hg2 hm2 PyProof.Rows.boot_set ?_)
  refine PyProof.Rows.callWith_type1 (PyProof.Rows.args_cons (thn (ha.run pins s σ H _ I h) fun v s1 ⟨x, H1, I1, r1, q1⟩ => PyProof.Rows.args_nil ?_) na) na rfl
  obtain ⟨l, ns, rfl, hq, h64, q1⟩ := q1
  cases r1
  obtain ⟨its, r, pl, hz⟩ := I1.list hq
  refine set_of_list (I1.ok.hd hc) pl.isList (ns := ns) (by simpa using r.ints) (by unfold scanBound; omega) fun s2 hf => PyProof.Rows.args_nil ?_
  obtain ⟨c, R, hc2, I2⟩ : ∃ c, SetR X.w s2.heap s1.heap.objs.size (fun j => decide (j ∈ ns)) c ∧ c ≤ ns.length ∧ L2.Inv X pins σ H1 s2 := by
    obtain ⟨g, tk, c, rfl, R, hc2, k⟩ := hf
    exact ⟨c, R, hc2, I1.kept k⟩
  refine sorted_set R (I2.ok.hd hc) (by omega) fun s3 p' out c' ms k3 gg oo hp hx hi hs hmem hlen => ?_
  have hn : H1 p' = none := I2.hok.fresh hp
  have hsz : (ms.map V.int).length ≤ sizeLine := by
    rw [List.length_map, hlen, sizeLine_eq]
    omega
  have J : Inv X pins σ (upd H1 p' (.lst (ms.map V.int))) { s2 with heap := s3.heap, gens := s3.gens, drawn := s3.drawn, toks := s3.toks } :=
    I2.call (ch := []) (Un.laid k3 hp hn) (I2.hok.laid k3 hp ⟨hsz, out.toList, c', vals_of_ints hi, hx⟩) (by rw [gg]; exact I2.bare) (fun _ z => nomatch z)
  have e : s3 = { s2 with heap := s3.heap, gens := s3.gens, drawn := s3.drawn, toks := s3.toks } := by
    cases s3
    cases s2
    cases oo
    rfl
  rw [e]
  exact ⟨.ref p', _, J, rfl, q1 ms p' hs (fun k => by rw [hmem k, decide_eq_true_eq]) hn⟩
end
/-! what it is -/
theorem dedupI_mem (k : Int) : ∀ l, k ∈ dedupI l ↔ k ∈ l
  | [] => Iff.rfl
  | x :: r => by
    unfold dedupI
    split
    · rename_i h
      rw [dedupI_mem k r, List.mem_cons]
      exact ⟨.inr, fun z => z.elim (fun e => e ▸ h) id⟩
    · rw [List.mem_cons, List.mem_cons, dedupI_mem k r]
theorem dedupI_nodup : ∀ l, (dedupI l).Nodup
  | [] => List.nodup_nil
  | x :: r => by
    unfold dedupI
    split
    · exact dedupI_nodup r
    · rename_i h
      exact List.nodup_cons.mpr ⟨fun z => h ((dedupI_mem x r).mp z), dedupI_nodup r⟩
theorem eq_srs {ms ns : List Int} (h : ms.Pairwise (· < ·)) (hm : ∀ k, k ∈ ms ↔ k ∈ ns) : ms = PySem.W.sortI (dedupI ns) := by
  refine PySem.W.eq_sortI ?_ (h.imp fun z => Int.le_of_lt z)
  refine (List.perm_ext_iff_of_nodup ?_ (dedupI_nodup ns)).mpr fun k => by rw [hm k, dedupI_mem]
  exact h.imp fun z e => by subst e; exact Int.lt_irrefl _ z
section
variable {P : Pm} {X : Cx} {a : Expr} {ca : CE} {p p2 q pos : Pos}
theorem t_srs (hK : X.K = P.K) (hc : X.calm = true) (gl : Gl X "sorted") (hm : X.mg "sorted" = none) (gs : Gl X "set") (hms : X.mg "set" = none) (ha : PE X a (T P ca)) (sa : starEach [a] X.env = (false, eval a X.env) :: starEach [] X.env) :
    PE X (.Call (.Name "sorted" p) [.Call (.Name "set" p2) [a] [] q] [] pos) (T P (.srs ca)) := by
  refine PEw (pe_srs hc gl hm gs hms ha sa) fun σ H Q ⟨ρ, G, fm, h⟩ => ⟨ρ, G, fm, ?_⟩
  simp only [ev] at h
  refine Out.bind h fun x ρ1 v G1 H1 s1 fm1 r1 h1 => ?_
  obtain ⟨d, e1, g⟩ := h1.giveO fm1
  cases r1 with
  | @lst l xs ys q1 q2 =>
    simp only [srsD] at e1
    split at e1
    · rename_i hl
      cases hq : intsOf ys with
      | none => rw [hq] at e1; cases e1
      | some is =>
        rw [hq] at e1
        cases e1
        have hx := ints_of q2 hq
        have ln := q2.length
        subst hx
        rw [List.length_map] at ln
        rw [hK]
        exact ⟨l, is, rfl, (Same.ls fm1.sub q1).seq, by omega, fun ms p' hs hm' hn => by
          obtain rfl := eq_srs hs hm'
          exact g.lst fm1.sub (ints_rpA _) p' hn⟩
    · cases e1
  | _ => cases e1
theorem t_gcd {b : Expr} {cb : CE} (gl : Gl X "gcd") (hm : X.mg "gcd" = some (.builtin "math.gcd")) (ha : PE X a (T P ca)) (hb : PE X b (T P cb)) (s1 : starEach [a, b] X.env = (false, eval a X.env) :: starEach [b] X.env) (s2 : starEach [b] X.env = (false, eval b X.env) :: starEach [] X.env)
    (hpl : (backTo pos (starEach [b] X.env)).any (·.1) = false) : PE X (.Call (.Name "gcd" p) [a, b] [] pos) (T P (.gcd ca cb)) := by
  refine PEw (pe_callBfun cr_gcd gl hm (pa_cons ha (pa_cons hb pa_nil s2) s1) (by decide) s1 hpl) fun σ H Q ⟨ρ, G, fm, h⟩ => ⟨ρ, G, fm, ?_⟩
  simp only [ev] at h
  refine Out.bind h fun x ρ1 v G1 H1 s1 fm1 r1 h1 => ⟨ρ1, G1, fm1, ?_⟩
  refine Out.bind h1 fun y ρ2 w G2 H2 s2 fm2 r2 h2 => ?_
  obtain ⟨d, e1, g⟩ := h2.giveO fm2
  cases r1 with
  | int i =>
    cases r2 with
    | int j =>
      cases e1
      exact ⟨i, j, rfl, g.int fm2.sub⟩
    | _ => cases e1
  | _ => cases e1
end
end Ev

set_option Elab.async false
set_option linter.all false
set_option maxRecDepth 100000
set_option maxHeartbeats 2000000
namespace Ev
open PySem PySem.Spec PyProof.Rows L2

/-! ## the code of a text -/
structure Fi where
  io : Bool
  ow : Bool
  ps : List Str
  kws : List (List Str × List Nat)
structure Cc where
  N : List Str
  sc : Scope
  top : Bool
  fns : List (Str × Fi)
  gvs : List (Str × D)
  ow : Bool
def idx (N : List Str) (x : Str) : Option Nat := N.findIdx? fun y => decide (y = x)
theorem idx_get {N : List Str} {x : Str} {i : Nat} (h : idx N x = some i) : N[i]? = some x := by
  obtain ⟨h1, h2, _⟩ := List.findIdx?_eq_some_iff_getElem.mp h
  rw [List.getElem?_eq_getElem h1, of_decide_eq_true h2]
def plainN (x : Str) : Bool := !(x == ("__debug__" : Str)) && !(x == ("__classdict__" : Str)) && !decide (x = ("__name__" : Str))
def Cc.slot (C : Cc) (x : Str) : Option Nat := if plainN x = true then (match C.sc.names.lookup x with
  | some .local => idx C.N x
  | some .cell => idx C.N x
  | some .free => idx C.N x
  | _ => none) else none
def Cc.stor (C : Cc) (x : Str) : Option Nat := match C.sc.names.lookup x with
  | some .local => idx C.N x
  | some .cell => if C.top = true then idx C.N x else none
  | _ => none
def Cc.glb (C : Cc) (x : Str) : Bool := plainN x && decide (C.sc.names.lookup x = some .globalImplicit)
def Cc.blk (C : Cc) (scope : Scope) : Cc := { C with sc := relS scope C.sc, top := false }
def biN : Bi → Str
  | .abs => "abs" | .max => "max" | .min => "min" | .int => "int" | .len => "len" | .str => "str" | .list => "list" | .tuple => "tuple" | .divmod => "divmod" | .sum => "sum" | .all => "all" | .repr => "repr" | .sorted => "sorted" | .any => "any"
def biV : Bi → Value
  | .abs => .builtin "abs" | .max => .builtin "max" | .min => .builtin "min" | .int => .type "int" | .len => .builtin "len" | .str => .type "str" | .list => .type "list" | .tuple => .type "tuple" | .divmod => .builtin "divmod" | .sum => .builtin "sum" | .all => .builtin "all" | .repr => .builtin "repr" | .sorted => .builtin "sorted" | .any => .builtin "any"
def biL : List Bi := [.abs, .max, .min, .int, .len, .str, .list, .tuple, .divmod, .sum, .all, .repr, .sorted, .any]
def tyL : List String := ["int", "bool", "str", "list", "tuple"]
def othL : List Str := ["isinstance", "bool", "range", "enumerate", "zip", "reversed", "set"]
def bltN (x : Str) : Bool := biL.any (fun f => decide (biN f = x)) || othL.any (fun y => decide (y = x))
structure Ok (C : Cc) (P : Pm) (X : Cx) : Prop where
  N : X.N = C.N
  nd : X.N.Nodup
  sc : X.env.scope = C.sc
  fn : C.top = true → ∀ x, X.fn x = true
  K : X.K = P.K
  mg : X.mg = P.mg
  calm : X.calm = true
  gd : X.A.guards = some []
  un : X.A.units + 100 < cLine
  tk : Takes X P.W
  fns : ∀ x fi, C.fns.lookup x = some fi → ∃ a fd k, Room k X.A ∧ X.mg x = some (.ref a) ∧ PySem.W.keepIn X.K (.ref a) = true ∧ FnG X.prog X.w X.K X.mg X.base k a fd fi.ps (spD P.K P.mg P.cal x fi.io fi.ps.length) ∧ Binds X.K fd fi.ps [] ∧
    ∀ ks perm, fi.kws.lookup ks = some perm → KwB X.K fd fi.ps ks perm
  bl : ∀ x, bltN x = true → X.mg x = none
  gvs : ∀ x d, x ≠ ("gcd" : Str) → C.gvs.lookup x = some d → ∃ u v, X.mg x = some u ∧ RelV v u ∧ ∀ G, Rp P.K G v d
  gc : C.gvs.lookup ("gcd" : Str) ≠ none → X.mg ("gcd" : Str) = some (.builtin "math.gcd")
section
variable {C : Cc} {P P' : Pm} {X : Cx}
theorem Ok.sameW (O : Ok C P X) (s : SameW P P') : Ok C P' X := by
  obtain ⟨s1, s2, s3, s4, s5⟩ := s
  exact ⟨O.N, O.nd, O.sc, O.fn, by rw [s1]; exact O.K, by rw [s2]; exact O.mg, O.calm, O.gd, O.un, by rw [s5]; exact O.tk, by rw [s1, s2, s4]; exact O.fns, O.bl, by rw [s1]; exact O.gvs, O.gc⟩
theorem Ok.blk (O : Ok C P X) (s : SameB P P') {scope : Scope} {st : Shared} {H : Hp} {cc : Addr} {cl : List (Str × Addr)} {fp : List Addr} : Ok (C.blk scope) P' (X.blk st H scope (compEnvC scope cl cc X.env) fp) := by
  obtain ⟨s1, s2, s3, s4, s5⟩ := s
  refine ⟨O.N, O.nd, ?_, fun h => (by cases h), by rw [s1]; exact O.K, by rw [s2]; exact O.mg, O.calm, O.gd, O.un, ?_, by rw [s1, s2, s4]; exact O.fns, O.bl, by rw [s1]; exact O.gvs, O.gc⟩
  · show relS scope X.env.scope = relS scope C.sc
    rw [O.sc]
  · rw [s5]
    rintro u s' ⟨a, B, sI, pins, σ, H, cls, d, e, I, nb, up, sky, na, os, ag, w⟩
    exact w
theorem plainN_ok {x : Str} (h : plainN x = true) : (x == ("__debug__" : Str)) = false ∧ (x == ("__classdict__" : Str)) = false ∧ x ≠ ("__name__" : Str) := by
  unfold plainN at h
  simp only [Bool.and_eq_true, Bool.not_eq_true', decide_eq_false_iff_not] at h
  exact ⟨h.1.1, h.1.2, h.2⟩
theorem slot_ok (O : Ok C P X) {x : Str} {i : Nat} (h : C.slot x = some i) : X.N[i]? = some x ∧ Vis X.env.scope x ∧ (x == ("__debug__" : Str)) = false ∧ (x == ("__classdict__" : Str)) = false := by
  unfold Cc.slot at h
  split at h
  · rename_i hp
    obtain ⟨p1, p2, p3⟩ := plainN_ok hp
    rw [O.N, O.sc]
    split at h
    · exact ⟨idx_get h, .inl (by assumption), p1, p2⟩
    · exact ⟨idx_get h, .inr (.inl (by assumption)), p1, p2⟩
    · exact ⟨idx_get h, .inr (.inr (by assumption)), p1, p2⟩
    · cases h
  · cases h
theorem stor_ok (O : Ok C P X) {x : Str} {i : Nat} (h : C.stor x = some i) : X.N[i]? = some x ∧ Loc X.env.scope x ∧ (X.fn x = true ∨ X.env.scope.names.lookup x = some .local) := by
  unfold Cc.stor at h
  rw [O.N, O.sc]
  split at h
  · exact ⟨idx_get h, .inl (by assumption), .inr (by assumption)⟩
  · split at h
    · rename_i ht
      exact ⟨idx_get h, .inr (by assumption), .inl (O.fn ht x)⟩
    · cases h
  · cases h
theorem glb_ok (O : Ok C P X) {x : Str} (h : C.glb x = true) : Gl X x ∧ (x == ("__debug__" : Str)) = false ∧ x ≠ ("__name__" : Str) := by
  unfold Cc.glb at h
  rw [Bool.and_eq_true] at h
  obtain ⟨p1, p2, p3⟩ := plainN_ok h.1
  exact ⟨by show X.env.scope.names.lookup x = _; rw [O.sc]; exact of_decide_eq_true h.2, p1, p3⟩
end
/-! shapes -/
def noStar : Expr → Bool
  | .Starred .. => false
  | _ => true
def noStars (es : List Expr) : Bool := es.all noStar
theorem star1 {e : Expr} {es : List Expr} {env : PySem.Env} (h : noStar e = true) : starEach (e :: es) env = (false, eval e env) :: starEach es env := by
  cases e <;> first | rfl | cases h
theorem starsT {env : PySem.Env} {pos : Pos} : ∀ {es : List Expr}, noStars es = true → (backTo pos (starEach es env)).any (·.1) = false ∧ (backTo pos (starEach es env)).all (fun x => !x.1) = true
  | [], _ => ⟨rfl, rfl⟩
  | e :: es, h => by
    unfold noStars at h
    rw [List.all_cons, Bool.and_eq_true] at h
    obtain ⟨h1, h2⟩ := starsT (env := env) (pos := pos) (es := es) h.2
    rw [star1 h.1]
    constructor
    · show (false || (backTo pos (starEach es env)).any (·.1)) = false
      rw [h1]; rfl
    · show (!false && (backTo pos (starEach es env)).all (fun x => !x.1)) = true
      rw [h2]; rfl
def plainIx : Expr → Bool
  | .Slice .. => false
  | _ => true
theorem plainIx_ok {b : Expr} (h : plainIx b = true) : PlainIx b := by
  cases b <;> first | exact fun _ _ => rfl | cases h
def noCall : Expr → Bool
  | .Call .. => false
  | _ => true
theorem noCall_ok {o : Expr} {nm : Str} {env : PySem.Env} (h : noCall o = true) : attributeBase o nm env (eval o env) = eval o env := by
  cases o <;> first | rfl | cases h
def noSet : Expr → Bool
  | .Set .. => false
  | _ => true
theorem noSet_ok {o : Expr} {env : PySem.Env} (h : noSet o = true) : ∀ x, foldedSetIterable o env x = pure x := by
  cases o <;> first | exact fun _ => rfl | cases h
def tstPlain : Expr → Bool
  | .UnaryOp .Not .. => false
  | .BoolOp .. => false
  | .IfExp .. => false
  | .Compare .. => false
  | _ => true
theorem tstPlain_ok {o : Expr} {env : PySem.Env} (h : tstPlain o = true) : ∀ whole, isTrue o env whole = (do let v ← whole; standAt o.pos; holding [v] (truthy v)) := by
  cases o with
  | UnaryOp op a pos => cases op <;> first | exact fun _ => rfl | cases h
  | BoolOp => cases h
  | IfExp => cases h
  | Compare => cases h
  | _ => exact fun _ => rfl
end Ev

set_option Elab.async false
set_option linter.all false
set_option maxRecDepth 100000
set_option maxHeartbeats 2000000
namespace Ev
open PySem PySem.Spec PyProof.Rows L2

def cstD : Const → Option D
  | .none => some .none
  | .bool b => some (.bool b)
  | .int i => some (.int i)
  | .str s => some (.str s)
  | _ => none
def cName (C : Cc) (x : Str) : Option CE := match C.slot x with
  | some i => some (.var i)
  | none => if C.glb x = true ∧ x ≠ ("gcd" : Str) then (C.gvs.lookup x).map (.gcn x) else none
def cL (r : Expr → Option CE) : List Expr → Option (List CE)
  | [] => some []
  | e :: es => if noStar e = true then (r e).bind fun c => (cL r es).bind fun cs => some (c :: cs) else none
def cO (r : Expr → Option CE) : Option Expr → Option (Option CE)
  | none => some none
  | some e => (r e).map some
def cUn (op : UnaryOp) (o : Option CE) : Option CE := match op with
  | .USub => o.map .neg
  | .Not => o.map .not
  | _ => none
def cCmp (r : Expr → Option CE) (a : Expr) (ops : List CmpOp) (bs : List Expr) : Option CE := match ops, bs with
  | [op], [b] => if behindInMarks op b = false then (r a).bind fun x => (r b).map fun y => .cmp op x y else none
  | [o1, o2], [b, c] => if lastMarks [o1, o2] [b, c] = false then (r a).bind fun x => (r b).bind fun y => (r c).map fun z => .chn o1 o2 x y z else none
  | _, _ => none
def cBool (r : Expr → Option CE) (op : BoolOp) : List Expr → Option CE
  | [] => none
  | [a] => r a
  | a :: b :: es => (r a).bind fun x => (cBool r op (b :: es)).map fun y => match op with | .And => .and x y | .Or => .or x y
def cIdx (C : Cc) (r : Expr → Option CE) (a b : Expr) : Option CE := if plainIx b = true then (match a with
  | .Name x _ => (match C.slot x with
    | some i => (r b).map (.idv i)
    | none => (r a).bind fun x => (r b).map (.idx x))
  | _ => (r a).bind fun x => (r b).map (.idx x)) else none
def isMinus1 : Expr → Bool
  | .UnaryOp .USub (.Constant (.int i) _ _) _ => decide (i = 1)
  | _ => false
def cSub (C : Cc) (r : Expr → Option CE) (a b : Expr) : Option CE := match b with
  | .Slice lo hi none _ => (r a).bind fun x => (cO r lo).bind fun l => (cO r hi).map fun h => .slc x l h
  | .Slice none none (some e) _ => if isMinus1 e = true then (r a).map .rev else none
  | b => cIdx C r a b
section
variable {C : Cc} {P P' : Pm} {X : Cx} {r : Expr → Option CE}
theorem bind_some {α β : Type} {o : Option α} {f : α → Option β} {c : β} (h : o.bind f = some c) : ∃ a, o = some a ∧ f a = some c := by
  cases o with
  | none => cases h
  | some a => exact ⟨a, rfl, h⟩
theorem map_some {α β : Type} {o : Option α} {f : α → β} {c : β} (h : o.map f = some c) : ∃ a, o = some a ∧ f a = c := by
  cases o with
  | none => cases h
  | some a => exact ⟨a, rfl, Option.some.inj h⟩
theorem cst_ok {c : Const} {k : Nat} {pos : Pos} {d : D} (h : cstD c = some d) : PE X (.Constant c k pos) (T P (.cst d)) := by
  cases c with
  | none => cases h; exact t_cst pe_non fun _ => .non
  | bool b => cases h; exact t_cst pe_bl fun _ => .bl b
  | int b => cases h; exact t_cst pe_int fun _ => .int b
  | str b => cases h; exact t_cst pe_str fun _ => .str b
  | _ => cases h
theorem name_ok (O : Ok C P X) {x : Str} {pos : Pos} {c : CE} (h : cName C x = some c) : PE X (.Name x pos) (T P c) := by
  unfold cName at h
  split at h
  · rename_i i hi
    cases h
    obtain ⟨h1, h2, h3, h4⟩ := slot_ok O hi
    exact t_var i h1 h2 h3 h4
  · split at h
    · rename_i hg
      obtain ⟨d, hd, rfl⟩ := map_some h
      obtain ⟨g1, g2, g3⟩ := glb_ok O hg.1
      obtain ⟨u, v, q1, q2, q3⟩ := O.gvs x d hg.2 hd
      exact t_gcn (pe_glob g1 q1 q2 g2) q3
    · cases h
theorem cL_len : ∀ {es : List Expr} {cs : List CE}, cL r es = some cs → cs.length = es.length
  | [], cs, h => by cases h; rfl
  | e :: es, cs, h => by
    unfold cL at h
    split at h
    · obtain ⟨c, h1, h2⟩ := bind_some h
      obtain ⟨cs', h3, h4⟩ := bind_some h2
      cases h4
      rw [List.length_cons, List.length_cons, cL_len h3]
    · cases h
theorem cL_stars : ∀ {es : List Expr} {cs : List CE}, cL r es = some cs → noStars es = true
  | [], cs, h => rfl
  | e :: es, cs, h => by
    unfold cL at h
    split at h
    · rename_i hs
      obtain ⟨c, h1, h2⟩ := bind_some h
      obtain ⟨cs', h3, h4⟩ := bind_some h2
      unfold noStars
      rw [List.all_cons, hs]
      exact cL_stars h3
    · cases h
variable (hr : ∀ e c, r e = some c → PE X e (T P c))
include hr
theorem cL_ok : ∀ {es : List Expr} {cs : List CE}, cL r es = some cs → PA X es (TAs P cs)
  | [], cs, h => by cases h; exact ta_nil
  | e :: es, cs, h => by
    unfold cL at h
    split at h
    · rename_i hs
      obtain ⟨c, h1, h2⟩ := bind_some h
      obtain ⟨cs', h3, h4⟩ := bind_some h2
      cases h4
      exact ta_cons (hr e c h1) (cL_ok h3) (star1 hs)
    · cases h
theorem cO_ok {o : Option Expr} {co : Option CE} (h : cO r o = some co) : PO X o (TOp P co) := by
  cases o with
  | none => cases h; exact to_none
  | some e =>
    obtain ⟨c, h1, rfl⟩ := map_some h
    exact to_some (hr e c h1)
theorem un_ok {op : UnaryOp} {a : Expr} {pos : Pos} {c : CE} (h : cUn op (r a) = some c) : PE X (.UnaryOp op a pos) (T P c) := by
  cases op with
  | USub => obtain ⟨x, h1, rfl⟩ := map_some h; exact t_neg (hr _ _ h1)
  | Not => obtain ⟨x, h1, rfl⟩ := map_some h; exact t_not (hr _ _ h1)
  | _ => cases h
theorem cmp_ok (O : Ok C P X) {a : Expr} {ops : List CmpOp} {bs : List Expr} {pos : Pos} {c : CE} (h : cCmp r a ops bs = some c) : PE X (.Compare a ops bs pos) (T P c) ∧ PT X (.Compare a ops bs pos) (TT' P c) := by
  unfold cCmp at h
  split at h
  · split at h
    · rename_i hm
      obtain ⟨x, h1, h2⟩ := bind_some h
      obtain ⟨y, h3, rfl⟩ := map_some h2
      exact ⟨t_cmp O.K O.un hm (hr _ _ h1) (hr _ _ h3), tt_cmp O.K O.un hm (hr _ _ h1) (hr _ _ h3)⟩
    · cases h
  · split at h
    · rename_i hm
      obtain ⟨x, h1, h2⟩ := bind_some h
      obtain ⟨y, h3, h4⟩ := bind_some h2
      obtain ⟨z, h5, rfl⟩ := map_some h4
      exact ⟨t_chn O.K O.un hm (hr _ _ h1) (hr _ _ h3) (hr _ _ h5), tt_chn O.K O.un hm (hr _ _ h1) (hr _ _ h3) (hr _ _ h5)⟩
    · cases h
  · cases h
theorem bool_ok {op : BoolOp} {pos : Pos} : ∀ {es : List Expr} {c : CE}, cBool r op es = some c → PE X (.BoolOp op es pos) (T P c)
  | [], c, h => by cases h
  | [a], c, h => t_one (hr _ _ h)
  | a :: b :: es, c, h => by
    unfold cBool at h
    obtain ⟨x, h1, h2⟩ := bind_some h
    obtain ⟨y, h3, h4⟩ := map_some h2
    cases op with
    | And => cases h4; exact t_and (hr _ _ h1) (bool_ok h3)
    | Or => cases h4; exact t_or (hr _ _ h1) (bool_ok h3)
theorem idx_ok (O : Ok C P X) {a b : Expr} {pos : Pos} {c : CE} (h : cIdx C r a b = some c) : PE X (.Subscript a b pos) (T P c) := by
  unfold cIdx at h
  split at h
  · rename_i hp
    split at h
    · split at h
      · rename_i i hi
        obtain ⟨y, h3, rfl⟩ := map_some h
        obtain ⟨q1, q2, q3, q4⟩ := slot_ok O hi
        exact t_idv i O.K q1 q2 q3 q4 (plainIx_ok hp) (hr _ _ h3)
      · obtain ⟨x, h1, h2⟩ := bind_some h
        obtain ⟨y, h3, rfl⟩ := map_some h2
        exact t_idx O.K (plainIx_ok hp) (hr _ _ h1) (hr _ _ h3)
    · obtain ⟨x, h1, h2⟩ := bind_some h
      obtain ⟨y, h3, rfl⟩ := map_some h2
      exact t_idx O.K (plainIx_ok hp) (hr _ _ h1) (hr _ _ h3)
  · cases h
theorem minus1 {e : Expr} (h : isMinus1 e = true) : ∃ k p1 p2, e = .UnaryOp .USub (.Constant (.int 1) k p1) p2 := by
  unfold isMinus1 at h
  split at h
  · exact ⟨_, _, _, by rw [of_decide_eq_true h]⟩
  · cases h
theorem sub_ok (O : Ok C P X) {a b : Expr} {pos : Pos} {c : CE} (h : cSub C r a b = some c) : PE X (.Subscript a b pos) (T P c) := by
  unfold cSub at h
  split at h
  · obtain ⟨x, h1, h2⟩ := bind_some h
    obtain ⟨l, h3, h4⟩ := bind_some h2
    obtain ⟨u, h5, rfl⟩ := map_some h4
    exact t_slc O.K (hr _ _ h1) (cO_ok hr h3) (cO_ok hr h5)
  · split at h
    · rename_i hm
      obtain ⟨k, p1, p2, rfl⟩ := minus1 hr hm
      obtain ⟨x, h1, rfl⟩ := map_some h
      exact t_rev O.K (hr _ _ h1)
    · cases h
  · exact idx_ok hr O h
end
end Ev

set_option Elab.async false
set_option linter.all false
set_option maxRecDepth 100000
set_option maxHeartbeats 2000000
namespace Ev
open PySem PySem.Spec PyProof.Rows L2

def cDef (C : Cc) (r : Expr → Option CE) (x : Str) (fi : Fi) (args : List Expr) (kws : List Keyword) : Option CE := match kws with
  | [] => (match args with
    | [] => if fi.io = false ∧ fi.ps = [] then some (.call x [] []) else none
    | a :: as => if fi.io = true then (match a with
        | .Name y _ => (C.slot y).bind fun i => if as.length + 1 = fi.ps.length then (cL r as).map (.cio x i) else none
        | _ => none)
      else if as.length + 1 = fi.ps.length then (cL r (a :: as)).map (.call x (List.range fi.ps.length)) else none)
  | _ :: _ => (match args with
    | [] => if fi.io = false ∧ kws.all (·.arg.isSome) = true then (fi.kws.lookup (kws.filterMap (·.arg))).bind fun perm => if perm.length = fi.ps.length then (cL r (kws.map (·.value))).map (.call x perm) else none else none
    | _ => none)
def cBlt (r : Expr → Option CE) (x : Str) (args : List Expr) : Option CE := (biL.find? fun f => decide (biN f = x)).bind fun f => match args with
  | [] => none
  | a :: as => (cL r (a :: as)).map (.blt f)
/-- sorted(set(..)) -/
def cSrs (C : Cc) (r : Expr → Option CE) (x : Str) (args : List Expr) : Option CE := match args with
  | [.Call (.Name y _) [a] [] _] => if (x = ("sorted" : Str) ∧ y = ("set" : Str)) ∧ C.glb y = true ∧ C.fns.lookup y = none ∧ noStar a = true then (r a).map .srs else none
  | _ => none
/-- min(.., default=..) -/
def cMnd (r : Expr → Option CE) (x : Str) (args : List Expr) (kws : List Keyword) : Option CE := match args, kws with
  | [a], [⟨some k, b, _⟩] => if (x = ("min" : Str) ∧ k = ("default" : Str)) ∧ noStar a = true then (r a).bind fun c => (r b).map fun d => .mnd c d else none
  | _, _ => none
/-- repr(name) -/
def cRpo (C : Cc) (x : Str) (args : List Expr) : Option CE := if biN .repr = x then (match args with
  | [.Name y _] => (C.slot y).map .rpo
  | _ => none) else none
def cIsi (C : Cc) (r : Expr → Option CE) (args : List Expr) : Option CE := match args with
  | [a, .Name y _] => if C.glb y = true ∧ C.fns.lookup y = none ∧ bltN y = true then (tyL.find? fun t => decide (Str.ofString t = y)).bind fun t => if noStar a = true then (r a).map fun x => .isi x t else none else none
  | _ => none
/-- list(range(..)) -/
def cLr (C : Cc) (r : Expr → Option CE) (x : Str) (args : List Expr) : Option CE := match args with
  | [.Call (.Name y _) [a] [] _] => if (x = ("list" : Str) ∧ y = ("range" : Str)) ∧ C.glb y = true ∧ C.fns.lookup y = none ∧ noStar a = true then (r a).map .lr1 else none
  | [.Call (.Name y _) [a, b] [] _] => if (x = ("list" : Str) ∧ y = ("range" : Str)) ∧ C.glb y = true ∧ C.fns.lookup y = none ∧ noStars [a, b] = true then (r a).bind fun c => (r b).map fun d => .lr2 c d else none
  | _ => none
def miN : Mi → Str
  | .join => "join" | .zfill => "zfill" | .index => "index"
def cMth (r : Expr → Option CE) (o : Expr) (nm : Str) (apos : Pos) (args : List Expr) (cpos : Pos) : Option CE := match args with
  | [] => none
  | a :: as => if noCall o = true ∧ (apos.endLine == cpos.line) = true ∧ (a :: as).length < 30 then
      ([Mi.join, .zfill, .index].find? fun m => decide (miN m = nm)).bind fun m => (r o).bind fun x => (cL r (a :: as)).map (.mth m x) else none
/-- gcd(a, b) -/
def cGcd (C : Cc) (r : Expr → Option CE) (x : Str) (args : List Expr) : Option CE := match args with
  | [a, b] => if x = ("gcd" : Str) ∧ (C.gvs.lookup ("gcd" : Str)).isSome = true ∧ noStars [a, b] = true then (r a).bind fun c => (r b).map fun d => .gcd c d else none
  | _ => none
def cCall (C : Cc) (r : Expr → Option CE) (f : Expr) (args : List Expr) (kws : List Keyword) (pos : Pos) : Option CE := match f with
  | .Name x _ => if C.glb x = true then (match C.fns.lookup x with
      | some fi => cDef C r x fi args kws
      | none => if bltN x = true then (match kws with
          | [] => if x = ("isinstance" : Str) then cIsi C r args else (match cLr C r x args with
            | some c => some c
            | none => (match cRpo C x args with
              | some c => some c
              | none => (match cSrs C r x args with
                | some c => some c
                | none => cBlt r x args)))
          | kws => cMnd r x args kws) else (match kws with
          | [] => cGcd C r x args
          | _ => none)) else none
  | .Attribute o nm apos => (match kws with
      | [] => cMth r o nm apos args pos
      | _ => none)
  | _ => none
section
variable {C : Cc} {P P' : Pm} {X : Cx} {r : Expr → Option CE}
theorem kwE {env : PySem.Env} {pos : Pos} : ∀ {kws : List Keyword}, kws.all (·.arg.isSome) = true → (backToKw pos (keywordEach kws env)).all (·.1.isSome) = true ∧ (backToKw pos (keywordEach kws env)).filterMap (·.1) = kws.filterMap (·.arg) ∧ (backToKw pos (keywordEach kws env)).any (·.1.isNone) = false ∧ (kws.filterMap (·.arg)).length = kws.length
  | [], _ => ⟨rfl, rfl, rfl, rfl⟩
  | ⟨nm, v, p⟩ :: kws, h => by
    rw [List.all_cons, Bool.and_eq_true] at h
    obtain ⟨h1, h2⟩ := h
    obtain ⟨q1, q2, q3, q4⟩ := kwE (env := env) (pos := pos) h2
    cases nm with
    | none => cases h1
    | some nm =>
      refine ⟨?_, ?_, ?_, ?_⟩
      · show (true && (backToKw pos (keywordEach kws env)).all (·.1.isSome)) = true
        rw [q1]; rfl
      · show nm :: (backToKw pos (keywordEach kws env)).filterMap (·.1) = nm :: kws.filterMap (·.arg)
        rw [q2]
      · show (false || (backToKw pos (keywordEach kws env)).any (·.1.isNone)) = false
        rw [q3]; rfl
      · show (nm :: kws.filterMap (·.arg)).length = _
        rw [List.length_cons, List.length_cons, q4]
theorem cL_get : ∀ {es : List Expr} {cs : List CE} {i : Nat} {e : Expr} {c : CE}, cL r es = some cs → es[i]? = some e → cs[i]? = some c → r e = some c
  | [], cs, i, e, c, h, h1, h2 => by simp at h1
  | e0 :: es, cs, i, e, c, h, h1, h2 => by
    unfold cL at h
    split at h
    · obtain ⟨c0, q1, q2⟩ := bind_some h
      obtain ⟨cs', q3, q4⟩ := bind_some q2
      cases q4
      cases i with
      | zero =>
        simp only [List.getElem?_cons_zero, Option.some.injEq] at h1 h2
        rw [← h1, ← h2]; exact q1
      | succ i =>
        simp only [List.getElem?_cons_succ] at h1 h2
        exact cL_get q3 h1 h2
    · cases h
theorem find_dec {α : Type} {l : List α} {f : α → Str} {y : Str} {a : α} (h : l.find? (fun z => decide (f z = y)) = some a) : f a = y := by
  have := List.find?_some h
  simpa using this
theorem bltN_bi (f : Bi) : bltN (biN f) = true := by cases f <;> decide +kernel
theorem boot_bi (f : Bi) : bootBuiltins (biN f) = some (biV f) := by cases f <;> decide +kernel
theorem plain_bi (f : Bi) : biN f ≠ ("__name__" : Str) ∧ (biN f == ("__debug__" : Str)) = false := by cases f <;> exact ⟨by decide, by decide⟩
theorem boot_isi : bootBuiltins "isinstance" = some (.builtin "isinstance") := by decide +kernel
theorem boot_ty {t : String} (h : t ∈ tyL) : bootBuiltins (Str.ofString t) = some (.type t) ∧ Str.ofString t ≠ ("__name__" : Str) ∧ (Str.ofString t == ("__debug__" : Str)) = false := by
  unfold tyL at h
  simp only [List.mem_cons, List.mem_nil_iff, or_false] at h
  rcases h with rfl | rfl | rfl | rfl | rfl <;> exact ⟨by decide +kernel, by decide, by decide⟩
variable (hr : ∀ e c, r e = some c → PE X e (T P c))
include hr
theorem def_ok (O : Ok C P X) {x : Str} {fi : Fi} {p pos : Pos} {args : List Expr} {kws : List Keyword} {c : CE} (hg : C.glb x = true) (hf : C.fns.lookup x = some fi) (h : cDef C r x fi args kws = some c) : PE X (.Call (.Name x p) args kws pos) (T P c) ∧ PE X (.Call (.Name x p) args kws pos) (TOwn P (evOwn P.cal P.b0 c)) := by
  have ca : ∀ {perm : List Nat} {cs : List CE}, PE X (.Call (.Name x p) args kws pos) (TCa P x perm cs) → PE X (.Call (.Name x p) args kws pos) (T P (.call x perm cs)) ∧ PE X (.Call (.Name x p) args kws pos) (TOwn P (evOwn P.cal P.b0 (.call x perm cs))) := fun q => ⟨PEw q fun _ _ _ => tca_T, PEw q fun _ _ _ => tca_O⟩
  have ci : ∀ {i : Nat} {cs : List CE}, PE X (.Call (.Name x p) args kws pos) (TCi P x i cs) → PE X (.Call (.Name x p) args kws pos) (T P (.cio x i cs)) ∧ PE X (.Call (.Name x p) args kws pos) (TOwn P (evOwn P.cal P.b0 (.cio x i cs))) := fun q => ⟨PEw q fun _ _ _ => tci_T, PEw q fun _ _ _ => tci_O⟩
  obtain ⟨g1, g2, g3⟩ := glb_ok O hg
  obtain ⟨a, fd, k, rm, q1, q2, q3, q4, q5⟩ := O.fns x fi hf
  unfold cDef at h
  split at h
  · split at h
    · split at h
      · rename_i hc
        cases h
        obtain ⟨c1, c2⟩ := hc
        rw [c1, c2] at q3
        rw [c2] at q4
        exact ca (t_call0 q3 rm O.gd O.tk g1 q1 q2 q4 g2)
      · cases h
    · split at h
      · rename_i hio
        split at h
        · obtain ⟨i, h1, h2⟩ := bind_some h
          split at h2
          · rename_i hl
            obtain ⟨cs, h3, rfl⟩ := map_some h2
            rw [hio] at q3
            obtain ⟨s1, s2, s3, s4⟩ := slot_ok O h1
            have hs := cL_stars h3
            exact ci (t_cio (es := _) q3 rm O.gd O.tk g1 q1 q2 q4 s1 s2 s3 s4 (cL_ok hr h3) (by rw [cL_len h3]; exact hl) (fun ρ ds ρ' e => evA_len e) g2 (star1 rfl) (starsT hs).1)
          · cases h2
        · cases h
      · rename_i hio
        split at h
        · rename_i hl
          obtain ⟨cs, h3, rfl⟩ := map_some h
          have hio' : fi.io = false := by cases hq : fi.io with
            | false => rfl
            | true => exact absurd hq hio
          rw [hio'] at q3
          have hs := cL_stars h3
          unfold noStars at hs
          rw [List.all_cons, Bool.and_eq_true] at hs
          exact ca (t_call O.K O.mg q3 rm O.gd O.tk g1 q1 q2 q4 (cL_ok hr h3) (by rw [cL_len h3, List.length_cons]; exact hl) (fun ρ ds ρ' e => evA_len e) g2 (star1 hs.1) (starsT hs.2).1)
        · cases h
  · split at h
    · split at h
      · rename_i hc
        obtain ⟨c1, c2⟩ := hc
        obtain ⟨perm, h1, h2⟩ := bind_some h
        split at h2
        · rename_i hl
          obtain ⟨cs, h3, rfl⟩ := map_some h2
          rw [c1] at q3
          obtain ⟨k1, k2, k3, k4⟩ := kwE (env := X.env) (pos := pos) c2
          have hlen := cL_len h3
          rw [List.length_map] at hlen
          refine ca (t_callK q3 rm O.gd O.tk g1 q1 q2 (q5 _ _ h1) (t_pk hlen.symm fun i kw c e1 e2 => ?_) hl (by rw [hlen, k4]) (fun ρ ds ρ' e => evA_len e) g2 k1 k2 (by rw [k3]; rfl) (by rw [k4]))
          exact hr _ _ (cL_get h3 (by rw [List.getElem?_map, e1]; rfl) e2)
        · cases h2
      · cases h
    · cases h
theorem blt_ok (O : Ok C P X) {x : Str} {p pos : Pos} {args : List Expr} {c : CE} (hg : C.glb x = true) (h : cBlt r x args = some c) : PE X (.Call (.Name x p) args [] pos) (T P c) := by
  obtain ⟨g1, g2, g3⟩ := glb_ok O hg
  unfold cBlt at h
  obtain ⟨f, h1, h2⟩ := bind_some h
  have e : biN f = x := find_dec h1
  subst e
  have hm := O.bl _ (bltN_bi f)
  cases args with
  | nil => cases h2
  | cons a as =>
    obtain ⟨cs, h3, rfl⟩ := map_some h2
    have hs := cL_stars h3
    unfold noStars at hs
    rw [List.all_cons, Bool.and_eq_true] at hs
    have ha := cL_ok hr h3
    have s1 := star1 (es := as) (env := X.env) hs.1
    have s2 := (starsT (env := X.env) (pos := pos) hs.2).1
    cases f with
    | abs => exact t_bltB O.K cb_abs g1 hm (boot_bi .abs) ha (plain_bi _).1 (plain_bi _).2 s1 s2
    | max => exact t_bltB O.K (cb_max O.calm) g1 hm (boot_bi .max) ha (plain_bi _).1 (plain_bi _).2 s1 s2
    | min => exact t_bltB O.K (cb_min O.calm) g1 hm (boot_bi .min) ha (plain_bi _).1 (plain_bi _).2 s1 s2
    | int => exact t_bltT O.K cb_int g1 hm (boot_bi .int) ha (plain_bi _).1 (plain_bi _).2 s1 s2
    | len => exact t_bltB O.K cb_len g1 hm (boot_bi .len) ha (plain_bi _).1 (plain_bi _).2 s1 s2
    | str => exact t_bltT O.K cb_str g1 hm (boot_bi .str) ha (plain_bi _).1 (plain_bi _).2 s1 s2
    | list => exact t_bltT O.K (cb_list O.calm) g1 hm (boot_bi .list) ha (plain_bi _).1 (plain_bi _).2 s1 s2
    | tuple => exact t_bltT O.K cb_tuple g1 hm (boot_bi .tuple) ha (plain_bi _).1 (plain_bi _).2 s1 s2
    | divmod => exact t_bltB O.K cb_divmod g1 hm (boot_bi .divmod) ha (plain_bi _).1 (plain_bi _).2 s1 s2
    | sum => exact t_bltB O.K (cb_sum O.calm) g1 hm (boot_bi .sum) ha (plain_bi _).1 (plain_bi _).2 s1 s2
    | all => exact t_bltB O.K (cb_all O.calm) g1 hm (boot_bi .all) ha (plain_bi _).1 (plain_bi _).2 s1 s2
    | repr => exact t_bltB O.K (cb_repr O.gd O.un) g1 hm (boot_bi .repr) ha (plain_bi _).1 (plain_bi _).2 s1 s2
    | sorted => exact t_bltB O.K cb_sorted g1 hm (boot_bi .sorted) ha (plain_bi _).1 (plain_bi _).2 s1 s2
    | any => exact t_bltB O.K (cb_any O.calm) g1 hm (boot_bi .any) ha (plain_bi _).1 (plain_bi _).2 s1 s2
theorem srs_ok (O : Ok C P X) {x : Str} {p pos : Pos} {args : List Expr} {c : CE} (hg : C.glb x = true) (h : cSrs C r x args = some c) : PE X (.Call (.Name x p) args [] pos) (T P c) := by
  obtain ⟨g1, g2, g3⟩ := glb_ok O hg
  unfold cSrs at h
  split at h
  · split at h
    · rename_i hc
      obtain ⟨⟨rfl, rfl⟩, c2, c3, c4⟩ := hc
      obtain ⟨a', h1, rfl⟩ := map_some h
      exact t_srs O.K O.calm g1 (O.bl _ (by decide +kernel)) (glb_ok O c2).1 (O.bl _ (by decide +kernel)) (hr _ _ h1) (star1 c4)
    · cases h
  · cases h
theorem mnd_ok (O : Ok C P X) {x : Str} {p pos : Pos} {args : List Expr} {kws : List Keyword} {c : CE} (hg : C.glb x = true) (h : cMnd r x args kws = some c) : PE X (.Call (.Name x p) args kws pos) (T P c) := by
  obtain ⟨g1, g2, g3⟩ := glb_ok O hg
  unfold cMnd at h
  split at h
  · split at h
    · rename_i hc
      obtain ⟨⟨rfl, rfl⟩, c3⟩ := hc
      obtain ⟨a', h1, h2⟩ := bind_some h
      obtain ⟨b', h3, rfl⟩ := map_some h2
      exact t_mnd O.K O.calm g1 (O.bl _ (by decide +kernel)) (hr _ _ h1) (hr _ _ h3) (star1 c3)
    · cases h
  · cases h
theorem rpo_ok (O : Ok C P X) {x : Str} {p pos : Pos} {args : List Expr} {c : CE} (hg : C.glb x = true) (h : cRpo C x args = some c) : PE X (.Call (.Name x p) args [] pos) (T P c) := by
  obtain ⟨g1, g2, g3⟩ := glb_ok O hg
  unfold cRpo at h
  split at h
  · rename_i e
    subst e
    have hm := O.bl _ (bltN_bi .repr)
    split at h
    · obtain ⟨i, hi, rfl⟩ := map_some h
      obtain ⟨q1, q2, q3, q4⟩ := slot_ok O hi
      exact t_rpo i O.K (cb_repr O.gd O.un) g1 hm (boot_bi .repr) q1 q2 q3 q4 (plain_bi _).1 (plain_bi _).2 (star1 rfl)
    · cases h
  · cases h
theorem lr_ok (O : Ok C P X) {x : Str} {p pos : Pos} {args : List Expr} {c : CE} (hg : C.glb x = true) (h : cLr C r x args = some c) : PE X (.Call (.Name x p) args [] pos) (T P c) := by
  obtain ⟨g1, g2, g3⟩ := glb_ok O hg
  unfold cLr at h
  split at h
  · split at h
    · rename_i hc
      obtain ⟨⟨rfl, rfl⟩, c2, c3, c4⟩ := hc
      obtain ⟨a', h1, rfl⟩ := map_some h
      exact t_lr1 O.calm g1 (O.bl _ (by decide +kernel)) (glb_ok O c2).1 (O.bl _ (by decide +kernel)) (hr _ _ h1) (star1 c4)
    · cases h
  · split at h
    · rename_i hc
      obtain ⟨⟨rfl, rfl⟩, c2, c3, c4⟩ := hc
      obtain ⟨a', h1, h2⟩ := bind_some h
      obtain ⟨b', h3, rfl⟩ := map_some h2
      unfold noStars at c4
      simp only [List.all_cons, List.all_nil, Bool.and_true, Bool.and_eq_true] at c4
      exact t_lr2 O.calm g1 (O.bl _ (by decide +kernel)) (glb_ok O c2).1 (O.bl _ (by decide +kernel)) (hr _ _ h1) (hr _ _ h3) (star1 c4.1) (star1 c4.2) (starsT (show noStars [_] = true by unfold noStars; simp [c4.2])).1
    · cases h
  · cases h
theorem isi_ok (O : Ok C P X) {x : Str} {p pos : Pos} {args : List Expr} {c : CE} (hg : C.glb x = true) (hx : x = ("isinstance" : Str)) (hb : bltN x = true) (h : cIsi C r args = some c) : PE X (.Call (.Name x p) args [] pos) (T P c) := by
  obtain ⟨g1, g2, g3⟩ := glb_ok O hg
  unfold cIsi at h
  split at h
  · split at h
    · rename_i hc
      obtain ⟨c1, c2, c3⟩ := hc
      obtain ⟨t, h1, h2⟩ := bind_some h
      split at h2
      · rename_i hs
        obtain ⟨y, h3, rfl⟩ := map_some h2
        have e := find_dec (f := Str.ofString) h1
        subst e
        obtain ⟨k1, k2, k3⟩ := boot_ty (List.mem_of_find?_eq_some h1)
        obtain ⟨w1, w2, w3⟩ := glb_ok O c1
        subst hx
        exact t_isi O.K g1 (O.bl _ hb) boot_isi w1 (O.bl _ c3) k1 (hr _ _ h3) g3 g2 w3 w2 (star1 hs)
      · cases h2
    · cases h
  · cases h
theorem mth_ok (O : Ok C P X) {o : Expr} {nm : Str} {apos cpos : Pos} {args : List Expr} {c : CE} (h : cMth r o nm apos args cpos = some c) : PE X (.Call (.Attribute o nm apos) args [] cpos) (T P c) := by
  unfold cMth at h
  split at h
  · cases h
  · rename_i a as
    split at h
    · rename_i hc
      obtain ⟨c1, c2, c3⟩ := hc
      obtain ⟨m, h1, h2⟩ := bind_some h
      obtain ⟨x, h3, h4⟩ := bind_some h2
      obtain ⟨cs, h5, rfl⟩ := map_some h4
      have e : miN m = nm := find_dec h1
      subst e
      have hs0 := cL_stars h5
      have hs := hs0
      unfold noStars at hs
      rw [List.all_cons, Bool.and_eq_true] at hs
      have hfew : ((backTo cpos (starEach (a :: as) X.env)).all (fun x => !x.1) && (backToKw cpos (keywordEach [] X.env)).all (fun x => x.1.isSome) && decide ((a :: as).length + ([] : List Keyword).length + (if ([] : List Keyword).isEmpty then 0 else 1) < 30)) = true := by
        rw [(starsT hs0).2]
        exact (decide_eq_true (by simpa using c3))
      have ha := cL_ok hr h5
      have s1 := star1 (es := as) (env := X.env) hs.1
      have s2 := (starsT (env := X.env) (pos := cpos) hs.2).1
      cases m with
      | join => exact t_mthS O.K (fun x hx => by cases x <;> first | exact ⟨_, rfl⟩ | cases hx) F.slot_str_join F.type_str_join mt_joinD (hr _ _ h3) ha (noCall_ok c1) hfew c2 s1 s2
      | zfill => exact t_mthS O.K (fun x hx => by cases x <;> first | exact ⟨_, rfl⟩ | cases hx) F.slot_str_zfill F.type_str_zfill mt_zfillD (hr _ _ h3) ha (noCall_ok c1) hfew c2 s1 s2
      | index => exact t_mthL O.K (fun x hx => by cases x <;> first | exact ⟨_, rfl⟩ | cases hx) F.slot_list_index F.type_list_index (mt_indexA O.un) (hr _ _ h3) ha (noCall_ok c1) hfew c2 s1 s2
    · cases h
theorem gcd_ok (O : Ok C P X) {x : Str} {p pos : Pos} {args : List Expr} {c : CE} (hg : C.glb x = true) (h : cGcd C r x args = some c) : PE X (.Call (.Name x p) args [] pos) (T P c) := by
  obtain ⟨g1, g2, g3⟩ := glb_ok O hg
  unfold cGcd at h
  split at h
  · split at h
    · rename_i hc
      obtain ⟨rfl, c2, c3⟩ := hc
      obtain ⟨a', h1, h2⟩ := bind_some h
      obtain ⟨b', h3, rfl⟩ := map_some h2
      unfold noStars at c3
      simp only [List.all_cons, List.all_nil, Bool.and_true, Bool.and_eq_true] at c3
      exact t_gcd g1 (O.gc (fun z => by rw [z] at c2; cases c2)) (hr _ _ h1) (hr _ _ h3) (star1 c3.1) (star1 c3.2) (starsT (show noStars [_] = true by unfold noStars; simp [c3.2])).1
    · cases h
  · cases h
theorem call_ok (O : Ok C P X) {f : Expr} {args : List Expr} {kws : List Keyword} {pos : Pos} {c : CE} (h : cCall C r f args kws pos = some c) : PE X (.Call f args kws pos) (T P c) := by
  unfold cCall at h
  split at h
  · split at h
    · rename_i hg
      split at h
      · rename_i fi hf
        exact (def_ok hr O hg hf h).1
      · split at h
        · rename_i hb
          split at h
          · split at h
            · rename_i hx
              exact isi_ok hr O hg hx hb h
            · split at h
              · rename_i c' hc'
                cases h
                exact lr_ok hr O hg hc'
              · split at h
                · rename_i c' hc'
                  cases h
                  exact rpo_ok hr O hg hc'
                · split at h
                  · rename_i c' hc'
                    cases h
                    exact srs_ok hr O hg hc'
                  · exact blt_ok hr O hg h
          · exact mnd_ok hr O hg h
        · split at h
          · exact gcd_ok hr O hg h
          · cases h
    · cases h
  · split at h
    · exact mth_ok hr O h
    · cases h
  · cases h
end
end Ev

set_option Elab.async false
set_option linter.all false
set_option maxRecDepth 100000
set_option maxHeartbeats 2000000
namespace Ev
open PySem PySem.Spec PyProof.Rows L2

def cNm (C : Cc) : List Expr → Option (List Nat)
  | [] => some []
  | .Name x _ :: es => (C.stor x).bind fun i => (cNm C es).map (i :: ·)
  | _ => none
def cTg (C : Cc) (tg : Expr) : Option (List Nat × Bool) := match tg with
  | .Name x _ => (C.stor x).map fun i => ([i], true)
  | .Tuple es _ _ => (cNm C es).map fun is => (is, false)
  | _ => none
def isTup : Expr → Bool
  | .Tuple .. => true
  | _ => false
def cAny (r : Expr → Option CE) (it : Expr) : Option (Nat × List CE) := (r it).map fun c => (9, [c])
def cIter (C : Cc) (r : Expr → Option CE) (tg it : Expr) : Option (Nat × List CE) := match it with
  | .Call (.Name x _) args [] _ => if C.glb x = true ∧ C.fns.lookup x = none ∧ bltN x = true then
      (if x = ("range" : Str) then (match args with
        | [a] => (cL r [a]).map fun cs => (1, cs)
        | [a, b] => (cL r [a, b]).map fun cs => (1, cs)
        | _ => none)
      else if x = ("enumerate" : Str) then (match args with
        | [a] => if isTup tg = true ∧ noStar a = true then (r a).map fun c => (10, [c]) else none
        | _ => none)
      else if x = ("zip" : Str) then (match args with
        | [a, b] => if isTup tg = true ∧ noStar a = true ∧ noStar b = true then (r a).bind fun c => (r b).map fun d => (3, [c, d]) else none
        | _ => none)
      else if x = ("reversed" : Str) then (match args with
        | [a] => if noStar a = true then (r a).map fun c => (12, [c]) else none
        | _ => none)
      else cAny r it) else cAny r it
  | _ => cAny r it
structure Kc where
  kind : Nat
  its : List CE
  tgs : List Nat
  one : Bool
  own : List (Str × Nat)
  cnd : Option CE
  elt : CE
def Kc.ce (k : Kc) : CE := .comp k.kind k.its k.tgs k.one (k.own.map (·.2)) k.cnd k.elt
def cIf (rb : Expr → Option CE) (nf : Expr → Bool) (ifs : List Expr) : Option (Option CE) := match ifs with
  | [] => some none
  | [e] => if nf e = true then (rb e).map some else none
  | _ => none
def ownOf (N : List Str) (scope : Scope) : List (Str × Nat) := scope.names.filterMap fun y => match y.2 with
  | .local => (idx N y.1).map fun i => (y.1, i)
  | .cell => (idx N y.1).map fun i => (y.1, i)
  | _ => none
def cComp (C : Cc) (r rb : Expr → Option CE) (nf : Expr → Bool) (elt : Expr) (gens : List Comprehension) (scope : Scope) : Option Kc := match gens with
  | [⟨tg, it, ifs, a⟩] => if a = 0 ∧ noSet it = true ∧ blkC C.N C.sc scope (ownOf C.N scope) = true then
      (cIter C r tg it).bind fun ki => (cTg (C.blk scope) tg).bind fun t => (cIf rb nf ifs).bind fun cnd => (rb elt).map fun e => ⟨ki.1, ki.2, t.1, t.2, ownOf C.N scope, cnd, e⟩
    else none
  | _ => none
def noIf : Nat → Expr → Bool
  | 0, _ => false
  | n + 1, e => match e with
    | .UnaryOp .Not x _ => noIf n x
    | .BoolOp _ vs _ => vs.all (noIf n)
    | .IfExp .. => false
    | _ => true
def neqOf (C : Cc) (a : Expr) (ops : List CmpOp) (bs : List Expr) : Option Nat := match a, ops, bs with
  | .Name x _, [.NotEq], [.List [] p] => if behindInMarks .NotEq (.List [] p) = false then C.slot x else none
  | _, _, _ => none
def cNeq (C : Cc) (o : Option CE) (a : Expr) (ops : List CmpOp) (bs : List Expr) : Option CE := match neqOf C a ops bs with
  | some i => some (.neq i)
  | none => o
theorem neq_ok {C : Cc} {P : Pm} {X : Cx} {r : Expr → Option CE} (hr : ∀ e c, r e = some c → PE X e (T P c)) (O : Ok C P X) {a : Expr} {ops : List CmpOp} {bs : List Expr} {pos : Pos} {c : CE} (h : cNeq C (cCmp r a ops bs) a ops bs = some c) : PE X (.Compare a ops bs pos) (T P c) ∧ PT X (.Compare a ops bs pos) (TT' P c) := by
  unfold cNeq at h
  split at h
  · rename_i i hi
    cases h
    unfold neqOf at hi
    split at hi
    · split at hi
      · rename_i hm
        obtain ⟨q1, q2, q3, q4⟩ := slot_ok O hi
        exact ⟨t_neq i O.K O.un q1 q2 q3 q4 hm (t_lst ta_nil), tt_neq i O.K O.un q1 q2 q3 q4 hm (t_lst ta_nil)⟩
      · cases hi
    · cases hi
  · exact cmp_ok hr O h
def cE (C : Cc) : Nat → Expr → Option CE
  | 0, _ => none
  | n + 1, e => match e with
    | .Name x _ => cName C x
    | .Constant c _ _ => (cstD c).map .cst
    | .BinOp a op b _ => (cE C n a).bind fun x => (cE C n b).map fun y => .bin op x y
    | .UnaryOp op a _ => cUn op (cE C n a)
    | .Compare a ops bs _ => cNeq C (cCmp (cE C n) a ops bs) a ops bs
    | .BoolOp op vs _ => cBool (cE C n) op vs
    | .IfExp c a b _ => if noIf n c = true then (cE C n c).bind fun x => (cE C n a).bind fun y => (cE C n b).map fun z => .ite x y z else none
    | .Tuple es _ _ => (cL (cE C n) es).map .tup
    | .List es _ => (cL (cE C n) es).map .lst
    | .Subscript a b _ => cSub C (cE C n) a b
    | .ListComp elt gens scope _ => (cComp C (cE C n) (cE (C.blk scope) n) (noIf n) elt gens scope).map Kc.ce
    | .Call f args kws pos => cCall C (cE C n) f args kws pos
    | .Dict [] [] _ => some .dct
    | _ => none
section
variable {C : Cc} {P P' : Pm} {X : Cx}
theorem nm_ok (O : Ok C P X) : ∀ {es : List Expr} {is : List Nat}, cNm C es = some is → NmOk X es is
  | [], is, h => by cases h; trivial
  | e :: es, is, h => by
    cases e with
    | Name x p =>
      unfold cNm at h
      obtain ⟨i, h1, h2⟩ := bind_some h
      obtain ⟨is', h3, rfl⟩ := map_some h2
      exact ⟨stor_ok O h1, nm_ok O h3⟩
    | _ => cases h
theorem tg_ok (O : Ok C P X) {tg : Expr} {t : List Nat × Bool} (h : cTg C tg = some t) : PG X tg (TTg P t.1 t.2) := by
  unfold cTg at h
  split at h
  · obtain ⟨i, h1, rfl⟩ := map_some h
    obtain ⟨q1, q2, q3⟩ := stor_ok O h1
    exact tg_one O.nd q1 q2 q3
  · obtain ⟨is, h1, rfl⟩ := map_some h
    exact tg_many O.K O.calm O.nd (nm_ok O h1)
  · cases h
theorem isTup_ok {tg : Expr} (h : isTup tg = true) : ∃ es k p, tg = .Tuple es k p := by
  cases tg <;> first | exact ⟨_, _, _, rfl⟩ | cases h
theorem iter_ok (O : Ok C P X) {r : Expr → Option CE} (hr : ∀ e c, r e = some c → PE X e (T P c)) {tg it : Expr} {k : Nat × List CE} (h : cIter C r tg it = some k) : PI X tg it (TIt P k.1 k.2) := by
  have any : cAny r it = some k → PI X tg it (TIt P k.1 k.2) := fun h => by
    obtain ⟨c, h1, rfl⟩ := map_some h
    exact ti_any O.K (hr _ _ h1)
  unfold cIter at h
  split at h
  · split at h
    · rename_i hc
      obtain ⟨c1, c2, c3⟩ := hc
      obtain ⟨g1, g2, g3⟩ := glb_ok O c1
      have hm := O.bl _ c3
      split at h
      · rename_i hx
        subst hx
        split at h
        · obtain ⟨cs, h1, rfl⟩ := map_some h
          have hs := cL_stars h1
          unfold noStars at hs
          simp only [List.all_cons, List.all_nil, Bool.and_true] at hs
          exact ti_rng1 g1 hm (cL_ok hr h1) (star1 hs) (cL_len h1) fun ρ ds ρ' e => evA_len e
        · obtain ⟨cs, h1, rfl⟩ := map_some h
          have hs := cL_stars h1
          unfold noStars at hs
          simp only [List.all_cons, List.all_nil, Bool.and_true, Bool.and_eq_true] at hs
          exact ti_rng2 g1 hm (cL_ok hr h1) (by rw [star1 hs.1, star1 hs.2]; rfl) (star1 hs.2) (cL_len h1) fun ρ ds ρ' e => evA_len e
        · cases h
      · split at h
        · rename_i hx
          subst hx
          split at h
          · split at h
            · rename_i hq
              obtain ⟨q1, q2⟩ := hq
              obtain ⟨c, h1, rfl⟩ := map_some h
              obtain ⟨es, kk, p, rfl⟩ := isTup_ok q1
              exact ti_enA O.K g1 hm (hr _ _ h1) (star1 q2)
            · cases h
          · cases h
        · split at h
          · rename_i hx
            subst hx
            split at h
            · split at h
              · rename_i hq
                obtain ⟨q1, q2, q3⟩ := hq
                obtain ⟨c, h1, h2⟩ := bind_some h
                obtain ⟨d, h3, rfl⟩ := map_some h2
                obtain ⟨es, kk, p, rfl⟩ := isTup_ok q1
                exact ti_zip O.K g1 hm (hr _ _ h1) (hr _ _ h3) (star1 q2) (star1 q3) (by rw [star1 q3]; rfl)
              · cases h
            · cases h
          · split at h
            · rename_i hx
              subst hx
              split at h
              · split at h
                · rename_i hq
                  obtain ⟨c, h1, rfl⟩ := map_some h
                  exact ti_rev O.K g1 hm (hr _ _ h1) (star1 hq)
                · cases h
              · cases h
            · exact any h
    · exact any h
  · exact any h
theorem pg_B {X' : Cx} {tg : Expr} {t : List Nat × Bool} (h : ∀ P', SameB P P' → PG X' tg (TTg P' t.1 t.2)) : PG X' tg (TBG P t.1 t.2) := ⟨fun pins s σ H v u Q I r ⟨P', sb, q⟩ => (h P' sb).run pins s σ H v u Q I r q⟩
theorem pe_B {X' : Cx} {e : Expr} {c : CE} (h : ∀ P', SameB P P' → PE X' e (T P' c)) : PE X' e (TB P c) := ⟨fun pins s σ H Q I ⟨P', sb, q⟩ => (h P' sb).run pins s σ H Q I q⟩
theorem pts_B0 {X' : Cx} : PTs X' [] (TBT P none) := ⟨fun pins s σ H Q I ⟨P', sb, ρ, G, fm, h⟩ => pts_nil.run pins s σ H Q I (by
  simp only [evC] at h
  exact h true G H (Same.refl G) fm rfl)⟩
theorem pts_B1 {X' : Cx} {e : Expr} {c : CE} (h : ∀ P', SameB P P' → PT X' e (TT' P' c)) : PTs X' [e] (TBT P (some c)) := ⟨fun pins s σ H Q I ⟨P', sb, ρ, G, fm, hq⟩ => (pts_one (h P' sb)).run pins s σ H Q I ⟨ρ, G, fm, by
  simp only [evC] at hq
  exact hq⟩⟩
/-- what a comprehension wants -/
structure CompOk (P : Pm) (X : Cx) (elt : Expr) (gens : List Comprehension) (scope : Scope) (k : Kc) (tg it : Expr) (ifs : List Expr) : Prop where
  gens : gens = [⟨tg, it, ifs, 0⟩]
  hi : PI X tg it (TIt P k.kind k.its)
  ok : BlkOk X.N X.env.scope scope k.own
  hg : ∀ (s : Shared) (H : Hp) (C : Addr) (cl : List (Str × Addr)) (fp : List Addr), PG (X.blk s H scope (compEnvC scope cl C X.env) fp) tg (TBG P k.tgs k.one)
  ht : ∀ (s : Shared) (H : Hp) (C : Addr) (cl : List (Str × Addr)) (fp : List Addr), PTs (X.blk s H scope (compEnvC scope cl C X.env) fp) ifs (TBT P k.cnd)
  he : ∀ (s : Shared) (H : Hp) (C : Addr) (cl : List (Str × Addr)) (fp : List Addr), PE (X.blk s H scope (compEnvC scope cl C X.env) fp) elt (TB P k.elt)
  hs : ∀ x, foldedSetIterable it X.env x = pure x
theorem comp_ok (O : Ok C P X) {r rb : Expr → Option CE} {nf : Expr → Bool} {elt : Expr} {gens : List Comprehension} {scope : Scope} {k : Kc} (hr : ∀ e c, r e = some c → PE X e (T P c))
    (hrb : ∀ P' X', Ok (C.blk scope) P' X' → (∀ e c, rb e = some c → PE X' e (T P' c)) ∧ (∀ e c, rb e = some c → nf e = true → PT X' e (TT' P' c))) (h : cComp C r rb nf elt gens scope = some k) : ∃ tg it ifs, CompOk P X elt gens scope k tg it ifs := by
  unfold cComp at h
  split at h
  · split at h
    · rename_i hc
      obtain ⟨c1, c2, c3⟩ := hc
      obtain ⟨ki, h1, h2⟩ := bind_some h
      obtain ⟨t, h3, h4⟩ := bind_some h2
      obtain ⟨cnd, h5, h6⟩ := bind_some h4
      obtain ⟨e, h7, rfl⟩ := map_some h6
      refine ⟨_, _, _, by rw [c1], iter_ok O hr h1, by rw [O.N, O.sc]; exact blkOk_by c3, fun s H cc cl fp => pg_B fun P' sb => tg_ok (O.blk sb) h3, fun s H cc cl fp => ?_, fun s H cc cl fp => pe_B fun P' sb => (hrb _ _ (O.blk sb)).1 _ _ h7, noSet_ok c2⟩
      unfold cIf at h5
      split at h5
      · cases h5; exact pts_B0
      · split at h5
        · rename_i hn
          obtain ⟨c, h8, rfl⟩ := map_some h5
          exact pts_B1 fun P' sb => (hrb _ _ (O.blk sb)).2 _ _ h8 hn
        · cases h5
      · cases h5
    · cases h
  · cases h
theorem boolT_ok {r : Expr → Option CE} {nf : Expr → Bool} (hr : ∀ e c, r e = some c → nf e = true → PT X e (TT' P c)) {op : BoolOp} {pos : Pos} : ∀ {es : List Expr} {c : CE}, es.all nf = true → cBool r op es = some c → PW X (.BoolOp op es pos) (TT' P c)
  | [], c, _, h => by cases h
  | [a], c, hn, h => by
    simp only [List.all_cons, List.all_nil, Bool.and_true] at hn
    exact tw_one (hr _ _ h hn)
  | a :: b :: es, c, hn, h => by
    rw [List.all_cons, Bool.and_eq_true] at hn
    unfold cBool at h
    obtain ⟨x, h1, h2⟩ := bind_some h
    obtain ⟨y, h3, h4⟩ := map_some h2
    cases op with
    | And => cases h4; exact tw_and (hr _ _ h1 hn.1) (boolT_ok hr hn.2 h3)
    | Or => cases h4; exact tw_or (hr _ _ h1 hn.1) (boolT_ok hr hn.2 h3)
end
theorem cE_ok : ∀ (n : Nat) (C : Cc) (P : Pm) (X : Cx), Ok C P X → (∀ e c, cE C n e = some c → PE X e (T P c)) ∧ (∀ e c, cE C n e = some c → noIf n e = true → PT X e (TT' P c))
  | 0, C, P, X, O => ⟨fun e c h => (by cases h), fun e c h => (by cases h)⟩
  | n + 1, C, P, X, O => by
    obtain ⟨hr, hrT⟩ := cE_ok n C P X O
    have hE : ∀ e c, cE C (n + 1) e = some c → PE X e (T P c) := by
      intro e c h
      unfold cE at h
      split at h
      · exact name_ok O h
      · obtain ⟨d, h1, rfl⟩ := map_some h
        exact cst_ok h1
      · obtain ⟨x, h1, h2⟩ := bind_some h
        obtain ⟨y, h3, rfl⟩ := map_some h2
        exact t_bin O.K (hr _ _ h1) (hr _ _ h3)
      · exact un_ok hr h
      · exact (neq_ok hr O h).1
      · exact bool_ok hr h
      · split at h
        · rename_i hn
          obtain ⟨x, h1, h2⟩ := bind_some h
          obtain ⟨y, h3, h4⟩ := bind_some h2
          obtain ⟨z, h5, rfl⟩ := map_some h4
          exact t_ite (hrT _ _ h1 hn) (hr _ _ h3) (hr _ _ h5)
        · cases h
      · obtain ⟨cs, h1, rfl⟩ := map_some h
        exact t_tup (cL_ok hr h1)
      · obtain ⟨cs, h1, rfl⟩ := map_some h
        exact t_lst (cL_ok hr h1)
      · exact sub_ok hr O h
      · obtain ⟨k, h1, rfl⟩ := map_some h
        obtain ⟨tg, it, ifs, q⟩ := comp_ok O hr (fun P' X' O' => cE_ok n _ P' X' O') h1
        rw [q.gens]
        exact t_comp O.calm O.nd q.hi q.ok q.hg q.ht q.he q.hs
      · exact call_ok hr O h
      · cases h; exact t_dct
      · cases h
    refine ⟨hE, fun e c h hn => ?_⟩
    have hp := hE e c h
    by_cases ht : tstPlain e = true
    · exact tt_of O.K hp (tstPlain_ok ht)
    · cases e with
      | UnaryOp op a pos =>
        cases op with
        | Not =>
          have h' : cUn .Not (cE C n a) = some c := h
          have hn' : noIf n a = true := hn
          obtain ⟨x, h1, rfl⟩ := map_some h'
          exact tt_not (hrT _ _ h1 hn')
        | _ => exact absurd rfl ht
      | BoolOp op vs pos =>
        have h' : cBool (cE C n) op vs = some c := h
        have hn' : vs.all (noIf n) = true := hn
        exact (boolT_ok hrT hn' h').pt
      | IfExp a b c pos => cases hn
      | Compare a ops bs pos =>
        have h' : cNeq C (cCmp (cE C n) a ops bs) a ops bs = some c := h
        exact (neq_ok hr O h').2
      | _ => exact absurd rfl ht
end Ev

set_option Elab.async false
set_option linter.all false
set_option maxRecDepth 100000
set_option maxHeartbeats 2000000
namespace Ev
open PySem PySem.Spec PyProof.Rows L2

def noComp : Expr → Bool
  | .ListComp .. => false
  | .SetComp .. => false
  | .DictComp .. => false
  | _ => true
theorem noComp_ok {e : Expr} {t : Option Expr} {l : Nat} {env : PySem.Env} (h : noComp e = true) : swapsWith e t l env = pure false := by
  cases e <;> first | rfl | cases h
theorem soleT {e : Expr} {es : List Expr} {k : Nat} {p : Pos} {l : Nat} {env : PySem.Env} : swapsWithSole [.Tuple es k p] e l env = pure false := by
  cases e <;> rfl
theorem soleS {e a b : Expr} {p : Pos} {l : Nat} {env : PySem.Env} : swapsWithSole [.Subscript a b p] e l env = pure false := by
  cases e <;> rfl
theorem storesS {e a b : Expr} {p : Pos} {env : PySem.Env} : swappedStores [.Subscript a b p] e env = pure none := by
  cases e <;> rfl
def notTup : Expr → Bool
  | .Tuple .. => false
  | _ => true
theorem storesT {e : Expr} {es : List Expr} {k : Nat} {p : Pos} {env : PySem.Env} (h : notTup e = true) : swappedStores [.Tuple es k p] e env = pure none := by
  cases e <;> first | rfl | cases h
/-- where a comprehension's list goes straight to a name -/
def lcTo (sc scope : Scope) (t : Str) (p vp : Pos) : Bool := decide (sc.kind = .function) && decide (sc.names.lookup t = some .local) && decide (p.line = vp.line) && (scope.names.all fun y => decide (y.1 ≠ t) || !(decide (y.2 = .local) || decide (y.2 = .cell)))
def lcNo (sc : Scope) (t : Str) (p vp : Pos) : Bool := decide (sc.names.lookup t ≠ some .local) || decide (p.line ≠ vp.line)
theorem lcTo_ok {env : PySem.Env} {scope : Scope} {t : Str} {p vp : Pos} {elt : Expr} {gens : List Comprehension} {l : Nat} (h : lcTo env.scope scope t p vp = true) : swapsWith (.ListComp elt gens scope vp) (some (.Name t p)) l env = pure true := by
  unfold lcTo at h
  simp only [Bool.and_eq_true, decide_eq_true_eq] at h
  obtain ⟨⟨⟨h1, h2⟩, h3⟩, h4⟩ := h
  have e1 : env.blockKind = .function := by unfold PySem.Env.blockKind; rw [h1]; rfl
  have e2 : env.kindOf t = some .local := h2
  have e3 : (scope.names.any fun (n, k) => n == t && (k == .local || k == .cell)) = false := by
    rw [List.any_eq_false]
    rintro ⟨n, k⟩ hy
    have := List.all_eq_true.mp h4 _ hy
    simp only [Bool.or_eq_true, decide_eq_true_eq, Bool.not_eq_true'] at this
    rcases this with q | q
    · simp [q]
    · simp only [Bool.or_eq_false_iff, decide_eq_false_iff_not] at q
      simp [q.1, q.2]
  unfold swapsWith
  simp only [e1, e2, e3]
  simp [h3, PySem.Expr.pos]
theorem lcNo_ok {env : PySem.Env} {scope : Scope} {t : Str} {p vp : Pos} {elt : Expr} {gens : List Comprehension} {l : Nat} (h : lcNo env.scope t p vp = true) : swapsWith (.ListComp elt gens scope vp) (some (.Name t p)) l env = pure false := by
  unfold lcNo at h
  simp only [Bool.or_eq_true, decide_eq_true_eq] at h
  unfold swapsWith
  refine congrArg pure ?_
  rcases h with h | h
  · have e2 : env.kindOf t ≠ some .local := h
    simp [e2]
  · simp [h, PySem.Expr.pos]

theorem subA {o b : Expr} {pos : Pos} {env : PySem.Env} (h : plainIx b = true) : ∀ v, assign (.Subscript o b pos) env v = (do
      let ov ← holding [v] (eval o env)
      let iv ← holding [v, ov] (eval b env)
      standAt pos
      holding [v, ov, iv] (setItem ov iv v)
      release [v, ov, iv] []) := by
  cases b <;> first | exact fun _ => rfl | cases h
theorem augA {b : Expr} (h : plainIx b = true) : ∀ ov iv new, augStore b ov iv new = (do holding [new, ov, iv] (setItem ov iv new); release [new, ov, iv] []; pure .next) := by
  cases b <;> first | exact fun _ _ _ => rfl | cases h
/-- where a pair's values are stored from the right -/
def parTo (sc : Scope) (ts : List (Str × Pos)) (vs : List Expr) : Bool := decide (sc.kind = .function) && noStars vs && (ts.all fun y => decide (sc.names.lookup y.1 = some .local)) && (match ts with
  | [] => false
  | y :: ys => ys.all fun z => decide (z.2.line = y.2.line)) && !(vs.all (foldedForSure 8)) && !(vs.all (constantsAlone 8))
theorem noStar2 {e : Expr} (h : noStar e = true) : (match e with | .Starred _ _ => true | _ => false) = false := by
  cases e <;> first | rfl | cases h
theorem par2_ok {env : PySem.Env} {x y : Str} {px py pt pt2 : Pos} {kt k2 : Nat} {a b : Expr} (hxy : x ≠ y) (h : parTo env.scope [(x, px), (y, py)] [a, b] = true) : swappedStores [.Tuple [.Name x px, .Name y py] kt pt] (.Tuple [a, b] k2 pt2) env = pure (some [x, y]) := by
  unfold parTo at h
  simp only [Bool.and_eq_true, decide_eq_true_eq, Bool.not_eq_true', List.all_cons, List.all_nil, Bool.and_true] at h
  obtain ⟨⟨⟨⟨⟨h1, h2⟩, h3, h4⟩, h5⟩, h6⟩, h7⟩ := h
  have e1 : env.blockKind = .function := by unfold PySem.Env.blockKind; rw [h1]; rfl
  have e2 : env.kindOf x = some .local := h3
  have e3 : env.kindOf y = some .local := h4
  unfold noStars at h2
  simp only [List.all_cons, List.all_nil, Bool.and_true, Bool.and_eq_true] at h2
  unfold swappedStores
  simp [e1, e2, e3, h5, PySem.Expr.pos, List.eraseDups_cons, hxy, Ne.symm hxy, h6, h7, List.all_cons, List.all_nil]
  intro q
  exfalso
  obtain ⟨ha, hb⟩ := h2
  rcases q with q | q
  · revert q; clear h6 h7; cases a <;> first | (cases ha; done) | exact Bool.false_ne_true
  · revert q; clear h6 h7; cases b <;> first | (cases hb; done) | exact Bool.false_ne_true
theorem par3_ok {env : PySem.Env} {x y z : Str} {px py pz pt pt2 : Pos} {kt k2 : Nat} {a b c : Expr} (hxy : x ≠ y) (hxz : x ≠ z) (hyz : y ≠ z) (h : parTo env.scope [(x, px), (y, py), (z, pz)] [a, b, c] = true) :
    swappedStores [.Tuple [.Name x px, .Name y py, .Name z pz] kt pt] (.Tuple [a, b, c] k2 pt2) env = pure (some [x, y, z]) := by
  unfold parTo at h
  simp only [Bool.and_eq_true, decide_eq_true_eq, Bool.not_eq_true', List.all_cons, List.all_nil, Bool.and_true] at h
  obtain ⟨⟨⟨⟨⟨h1, h2⟩, h3, h4, h4'⟩, h5, h5'⟩, h6⟩, h7⟩ := h
  have e1 : env.blockKind = .function := by unfold PySem.Env.blockKind; rw [h1]; rfl
  have e2 : env.kindOf x = some .local := h3
  have e3 : env.kindOf y = some .local := h4
  have e4 : env.kindOf z = some .local := h4'
  unfold noStars at h2
  simp only [List.all_cons, List.all_nil, Bool.and_true, Bool.and_eq_true] at h2
  unfold swappedStores
  simp [e1, e2, e3, e4, h5, h5', PySem.Expr.pos, List.eraseDups_cons, hxy, Ne.symm hxy, hxz, Ne.symm hxz, hyz, Ne.symm hyz, h6, h7, List.all_cons, List.all_nil]
  intro q
  exfalso
  obtain ⟨ha, hb, hc⟩ := h2
  rcases q with q | q | q
  · revert q; clear h6 h7; cases a <;> first | (cases ha; done) | exact Bool.false_ne_true
  · revert q; clear h6 h7; cases b <;> first | (cases hb; done) | exact Bool.false_ne_true
  · revert q; clear h6 h7; cases c <;> first | (cases hc; done) | exact Bool.false_ne_true
/-- constants alone: no store is swapped -/
theorem parNo_ok {env : PySem.Env} {ts : List Expr} {pt pt2 : Pos} {kt k2 : Nat} {vs : List Expr} (h : vs.all (foldedForSure 8) = true) : swappedStores [.Tuple ts kt pt] (.Tuple vs k2 pt2) env = pure none := by
  unfold swappedStores
  simp only [h]
  repeat' split
  all_goals first | rfl | simp_all
/-- a name that is none of the block's own -/
theorem parNo2_ok {env : PySem.Env} {ts : List Expr} {pt pt2 : Pos} {kt k2 : Nat} {vs : List Expr} (h : (ts.length = 2 ∨ ts.length = 3) → vs.length ≠ ts.length) : swappedStores [.Tuple ts kt pt] (.Tuple vs k2 pt2) env = pure none := by
  unfold swappedStores
  by_cases hl : ts.length = 2 ∨ ts.length = 3
  · simp [h hl]
  · simp only [not_or] at hl
    simp [hl.1, hl.2]
/-- a pair of which a name is read by an inner block -/
theorem parCell2 {env : PySem.Env} {x y : Str} {px py pt pt2 : Pos} {kt k2 : Nat} {vs : List Expr} (h : env.scope.names.lookup x ≠ some .local ∨ env.scope.names.lookup y ≠ some .local) : swappedStores [.Tuple [.Name x px, .Name y py] kt pt] (.Tuple vs k2 pt2) env = pure none := by
  unfold swappedStores
  rcases h with h | h
  · have e : env.kindOf x ≠ some .local := h
    by_cases q : env.kindOf y = some .local <;> by_cases q2 : py.line = px.line <;> simp [e, q, q2, PySem.Expr.pos]
  · have e : env.kindOf y ≠ some .local := h
    by_cases q : env.kindOf x = some .local <;> simp [e, q, PySem.Expr.pos]
theorem parCell3 {env : PySem.Env} {x y z : Str} {px py pz pt pt2 : Pos} {kt k2 : Nat} {vs : List Expr} (h : env.scope.names.lookup x ≠ some .local ∨ env.scope.names.lookup y ≠ some .local ∨ env.scope.names.lookup z ≠ some .local) :
    swappedStores [.Tuple [.Name x px, .Name y py, .Name z pz] kt pt] (.Tuple vs k2 pt2) env = pure none := by
  unfold swappedStores
  rcases h with h | h | h
  · have e : env.kindOf x ≠ some .local := h
    by_cases q : env.kindOf y = some .local <;> by_cases q2 : py.line = px.line <;> by_cases q3 : env.kindOf z = some .local <;> by_cases q4 : pz.line = px.line <;> simp [e, q, q2, q3, q4, PySem.Expr.pos]
  · have e : env.kindOf y ≠ some .local := h
    by_cases q : env.kindOf x = some .local <;> by_cases q3 : env.kindOf z = some .local <;> by_cases q4 : pz.line = px.line <;> simp [e, q, q3, q4, PySem.Expr.pos]
  · have e : env.kindOf z ≠ some .local := h
    by_cases q : env.kindOf x = some .local <;> by_cases q3 : env.kindOf y = some .local <;> by_cases q4 : py.line = px.line <;> simp [e, q, q3, q4, PySem.Expr.pos]
end Ev

set_option Elab.async false
set_option linter.all false
set_option maxRecDepth 100000
set_option maxHeartbeats 2000000
namespace Ev
open PySem PySem.Spec PyProof.Rows L2

section
variable (C : Cc) (m : Nat)
def cOwn1 (e : Expr) : Option CE := match e with
  | .List es _ => (cL (cE C m) es).map .lst
  | .BinOp a op b _ => (match a with
    | .List _ _ => if op = .Mult then (cE C m a).bind fun x => (cE C m b).map fun y => .bin op x y else none
    | _ => (match b with
      | .List _ _ => if op = .Add then (cE C m a).bind fun x => (cE C m b).map fun y => .bin op x y else none
      | _ => none))
  | .ListComp elt gens scope _ => (cComp C (cE C m) (cE (C.blk scope) m) (noIf m) elt gens scope).map Kc.ce
  | .Call (.Name x _) args kws _ => if C.glb x = true then (match C.fns.lookup x with
    | some fi => if fi.ow = true then cDef C (cE C m) x fi args kws else none
    | none => if x = ("sorted" : Str) then (match args, kws with
      | [a], [] => if noStar a = true then (cE C m a).map fun c => .blt .sorted [c] else none
      | _, _ => none) else none) else none
  | _ => none
def cOwn (e : Expr) : Option CE := match e with
  | .IfExp c a b _ => if noIf m c = true then (cE C m c).bind fun x => (cOwn1 C m a).bind fun y => (cOwn1 C m b).map fun z => .ite x y z else none
  | e => cOwn1 C m e
def cRet (e : Expr) : Option CS := if C.ow = true then (match e with
    | .Name x _ => (C.slot x).map .retV
    | e => (cOwn C m e).map .retO) else (cE C m e).map .ret
def cPa : List Expr → Option (List (Bool × CE))
  | [] => some []
  | e :: es => if noStar e = true then (match cOwn C m e with
    | some c => (cPa es).map ((true, c) :: ·)
    | none => (cE C m e).bind fun c => (cPa es).map ((false, c) :: ·)) else none
def cOne (x : Str) (px : Pos) (e : Expr) (pos : Pos) : Option CS := (C.stor x).bind fun i => match e with
  | .ListComp elt gens scope p => if lcTo C.sc scope x px p = true ∨ lcNo C.sc x px p = true then (cComp C (cE C m) (cE (C.blk scope) m) (noIf m) elt gens scope).map fun k => .own i k.ce else none
  | e => if noComp e = true then (match cOwn C m e with
    | some c => some (.own i c)
    | none => (cE C m e).map (.asg i)) else none
def cUnp (ts vs : List Expr) (e : Expr) : Option CS := (cNm C ts).bind fun is => match cPa C m vs with
  | some cs => if cs.any (·.1) = true ∧ is.length ≤ 100 then some (.par is cs) else (cE C m e).map (.unp is)
  | none => (cE C m e).map (.unp is)
def cPair (ts : List Expr) (e : Expr) : Option CS := match e with
  | .Tuple vs _ _ => (match ts with
    | [.Name x px, .Name y py] => (match vs with
      | [a, b] => if parTo C.sc [(x, px), (y, py)] [a, b] = true ∧ x ≠ y then (C.stor x).bind fun i => (C.stor y).bind fun j => if i ≠ j then (cPa C m [a, b]).map (.par [i, j]) else none
        else if [a, b].all (foldedForSure 8) = true ∨ (C.sc.names.lookup x ≠ some .local ∨ C.sc.names.lookup y ≠ some .local) then cUnp C m ts vs e else none
      | _ => none)
    | [.Name x px, .Name y py, .Name z pz] => (match vs with
      | [a, b, c] => if parTo C.sc [(x, px), (y, py), (z, pz)] [a, b, c] = true ∧ x ≠ y ∧ x ≠ z ∧ y ≠ z then (C.stor x).bind fun i => (C.stor y).bind fun j => (C.stor z).bind fun l => if i ≠ j ∧ i ≠ l ∧ j ≠ l then (cPa C m [a, b, c]).map (.par [i, j, l]) else none
        else if [a, b, c].all (foldedForSure 8) = true ∨ (C.sc.names.lookup x ≠ some .local ∨ C.sc.names.lookup y ≠ some .local ∨ C.sc.names.lookup z ≠ some .local) then cUnp C m ts vs e else none
      | _ => none)
    | [_, _, _, _] => cUnp C m ts vs e
    | _ => none)
  | e => if notTup e = true then (cNm C ts).bind fun is => (cE C m e).map (.unp is) else none
def cAsg (tg e : Expr) (pos : Pos) : Option CS := match tg with
  | .Name x px => cOne C m x px e pos
  | .Tuple ts _ _ => cPair C m ts e
  | .Subscript (.Name x _) b _ => if plainIx b = true then (C.slot x).bind fun i => (cE C m b).bind fun k => (cE C m e).map (.sub i k) else none
  | _ => none
def cAug (tg : Expr) (op : Operator) (e : Expr) : Option CS := match tg with
  | .Name x _ => (C.stor x).bind fun i => (cE C m e).map (.aug op i)
  | .Subscript (.Name x _) b _ => if plainIx b = true then (C.slot x).bind fun i => (cE C m b).bind fun k => (cE C m e).map (.aus op i k) else none
  | _ => none
def cExp (e : Expr) : Option CS := match e with
  | .Constant (.str _) _ _ => some .pas
  | .Call (.Attribute (.Name x _) nm apos) [a] [] cpos => if nm = ("append" : Str) then (if noStar a = true ∧ (apos.endLine == cpos.line) = true then (C.slot x).bind fun i => (cE C m a).map (.app i) else none) else (cE C m e).map .exp
  | e => if noComp e = true then (cE C m e).map .exp else none
mutual
def cS : Nat → Stmt → Option CS
  | 0, _ => none
  | n + 1, st => match st with
    | .Assign [tg] e pos => cAsg C m tg e pos
    | .AugAssign tg op e _ => cAug C m tg op e
    | .Expr e _ => cExp C m e
    | .If c a b _ => if noIf m c = true then (cE C m c).bind fun x => (cB n a).bind fun y => (cB n b).map fun z => .iff x y z else none
    | .For tg it body [] _ => if noSet it = true then (cIter C (cE C m) tg it).bind fun k => (cTg C tg).bind fun t => (cB n body).map fun b => .fr k.1 k.2 t.1 t.2 b else none
    | .While c body [] _ => if noIf m c = true then (cE C m c).bind fun x => (cB n body).map fun b => .wh x b else none
    | .Return (some e) _ => cRet C m e
    | .Return none _ => some .retN
    | .Pass _ => some .pas
    | .Break _ => some .brk
    | .Continue _ => some .ctn
    | .Raise _ _ _ => some .nev
    | _ => none
def cB : Nat → List Stmt → Option (List CS)
  | 0, _ => none
  | n + 1, [] => some []
  | n + 1, s :: ss => (cS n s).bind fun c => (cB n ss).map (c :: ·)
end
end
section
variable {C : Cc} {P P' : Pm} {X : Cx} {m : Nat}
theorem own1_ok (O : Ok C P X) {e : Expr} {c : CE} (h : cOwn1 C m e = some c) : PE X e (TOwn P (evOwn P.cal P.b0 c)) := by
  obtain ⟨hr, hrT⟩ := cE_ok m C P X O
  unfold cOwn1 at h
  split at h
  · obtain ⟨cs, h1, rfl⟩ := map_some h
    exact own_lst (cL_ok hr h1)
  · split at h
    · split at h
      · rename_i ho
        obtain ⟨x, h1, h2⟩ := bind_some h
        obtain ⟨y, h3, rfl⟩ := map_some h2
        exact own_rep O.K ho (hr _ _ h1) (hr _ _ h3)
      · cases h
    · split at h
      · split at h
        · rename_i ho
          obtain ⟨x, h1, h2⟩ := bind_some h
          obtain ⟨y, h3, rfl⟩ := map_some h2
          exact own_cat O.K ho (hr _ _ h1) (hr _ _ h3)
        · cases h
      · cases h
  · obtain ⟨k, h1, rfl⟩ := map_some h
    obtain ⟨tg, it, ifs, q⟩ := comp_ok O hr (fun P' X' O' => cE_ok m _ P' X' O') h1
    rw [q.gens]
    exact own_comp O.calm O.nd q.hi q.ok q.hg q.ht q.he q.hs
  · split at h
    · rename_i hg
      split at h
      · rename_i fi hf
        split at h
        · exact (def_ok hr O hg hf h).2
        · cases h
      · split at h
        · rename_i hx
          subst hx
          split at h
          · split at h
            · rename_i hs
              obtain ⟨c', h1, rfl⟩ := map_some h
              obtain ⟨g1, g2, g3⟩ := glb_ok O hg
              exact own_srt O.K g1 (O.bl _ (by decide +kernel)) (boot_bi .sorted) (hr _ _ h1) (star1 hs)
            · cases h
          · cases h
        · cases h
    · cases h
  · cases h
theorem own_ok (O : Ok C P X) {e : Expr} {c : CE} (h : cOwn C m e = some c) : PE X e (TOwn P (evOwn P.cal P.b0 c)) := by
  obtain ⟨hr, hrT⟩ := cE_ok m C P X O
  unfold cOwn at h
  split at h
  · split at h
    · rename_i hn
      obtain ⟨x, h1, h2⟩ := bind_some h
      obtain ⟨y, h3, h4⟩ := bind_some h2
      obtain ⟨z, h5, rfl⟩ := map_some h4
      exact own_ite (hrT _ _ h1 hn) (own1_ok O h3) (own1_ok O h5)
    · cases h
  · exact own1_ok O h
theorem ret_ok (O : Ok C P X) {e : Expr} {pos : Pos} {c : CS} (h : cRet C m e = some c) : PS X (.Return (some e) pos) (TSt P c) := by
  obtain ⟨hr, hrT⟩ := cE_ok m C P X O
  unfold cRet at h
  split at h
  · split at h
    · obtain ⟨i, h1, rfl⟩ := map_some h
      obtain ⟨q1, q2, q3, q4⟩ := slot_ok O h1
      exact s_retV q1 q2 q3 q4
    · obtain ⟨ce, h1, rfl⟩ := map_some h
      exact s_retO (own_ok O h1)
  · obtain ⟨ce, h1, rfl⟩ := map_some h
    exact s_ret (hr _ _ h1)
theorem pa_ok : ∀ {es : List Expr} {cs : List (Bool × CE)} {P : Pm}, Ok C P X → cPa C m es = some cs → PA X es (TPa P cs)
  | [], cs, P, O, h => by cases h; exact pa_nilP
  | e :: es, cs, P, O, h => by
    unfold cPa at h
    split at h
    · rename_i hs
      split at h
      · rename_i c hc
        obtain ⟨cs', h1, rfl⟩ := map_some h
        exact pa_ownP (own_ok O hc) (fun P' sw => pa_ok (O.sameW sw) h1) (star1 hs)
      · obtain ⟨c, h1, h2⟩ := bind_some h
        obtain ⟨cs', h3, rfl⟩ := map_some h2
        exact pa_valP ((cE_ok m C P X O).1 _ _ h1) (pa_ok O h3) (star1 hs)
    · cases h
theorem one_ok (O : Ok C P X) {x : Str} {px pos : Pos} {e : Expr} {c : CS} (h : cOne C m x px e pos = some c) : PS X (.Assign [.Name x px] e pos) (TSt P c) := by
  obtain ⟨hr, hrT⟩ := cE_ok m C P X O
  unfold cOne at h
  obtain ⟨i, h1, h2⟩ := bind_some h
  obtain ⟨q1, q2, q3⟩ := stor_ok O h1
  split at h2
  · split at h2
    · rename_i hc
      obtain ⟨k, h3, rfl⟩ := map_some h2
      obtain ⟨tg, it, ifs, q⟩ := comp_ok O hr (fun P' X' O' => cE_ok m _ P' X' O') h3
      rw [q.gens]
      rcases hc with hc | hc
      · have hl : X.env.scope.names.lookup x = some .local := by
          rw [O.sc]
          unfold lcTo at hc
          simp only [Bool.and_eq_true, decide_eq_true_eq] at hc
          exact hc.1.1.2
        exact s_ownLc O.calm O.nd q1 hl (lcTo_ok (by rw [O.sc]; exact hc)) q.hi q.ok q.hg q.ht q.he q.hs
      · exact s_own O.nd q1 q2 (own_comp O.calm O.nd q.hi q.ok q.hg q.ht q.he q.hs) (lcNo_ok (by rw [O.sc]; exact hc)) q3
    · cases h2
  · split at h2
    · rename_i hn
      split at h2
      · rename_i c' hc
        cases h2
        exact s_own O.nd q1 q2 (own_ok O hc) (noComp_ok hn) q3
      · obtain ⟨c', h3, rfl⟩ := map_some h2
        exact s_asg O.nd q1 q2 (hr _ _ h3) (noComp_ok hn) q3
    · cases h2
theorem each1 {es : List Expr} {k : Nat} {p : Pos} {env : PySem.Env} : (assignEach [.Tuple es k p] env).map (·.2) = [assign (.Tuple es k p) env] := rfl
theorem parTo2 {sc : Scope} {x y : Str} {px py : Pos} {vs : List Expr} (h : parTo sc [(x, px), (y, py)] vs = true) : sc.names.lookup x = some .local ∧ sc.names.lookup y = some .local := by
  unfold parTo at h
  simp only [Bool.and_eq_true, decide_eq_true_eq, Bool.not_eq_true', List.all_cons, List.all_nil, Bool.and_true] at h
  exact h.1.1.1.2
theorem parTo3 {sc : Scope} {x y z : Str} {px py pz : Pos} {vs : List Expr} (h : parTo sc [(x, px), (y, py), (z, pz)] vs = true) : sc.names.lookup x = some .local ∧ sc.names.lookup y = some .local ∧ sc.names.lookup z = some .local := by
  unfold parTo at h
  simp only [Bool.and_eq_true, decide_eq_true_eq, Bool.not_eq_true', List.all_cons, List.all_nil, Bool.and_true] at h
  exact h.1.1.1.2
theorem unp_ok (O : Ok C P X) {ts vs : List Expr} {kt k2 : Nat} {pt p2 pos : Pos} {c : CS} (h : cUnp C m ts vs (.Tuple vs k2 p2) = some c) (hs : swapsWithSole [.Tuple ts kt pt] (.Tuple vs k2 p2) pos.line X.env = pure false)
    (hw : swappedStores [.Tuple ts kt pt] (.Tuple vs k2 p2) X.env = pure none) (h1 : (assignEach [.Tuple ts kt pt] X.env).map (·.2) = [assign (.Tuple ts kt pt) X.env]) : PS X (.Assign [.Tuple ts kt pt] (.Tuple vs k2 p2) pos) (TSt P c) := by
  obtain ⟨hr, hrT⟩ := cE_ok m C P X O
  unfold cUnp at h
  obtain ⟨is, e1, h⟩ := bind_some h
  split at h
  · rename_i cs hcs
    split at h
    · rename_i hc
      cases h
      exact s_upo O.calm O.nd (nm_ok O e1) hc.2 (pa_ok O hcs) hs hw h1
    · obtain ⟨ce, h3, rfl⟩ := map_some h
      exact s_unp O.K O.calm O.nd (nm_ok O e1) (hr _ _ h3) hs hw h1
  · obtain ⟨ce, h3, rfl⟩ := map_some h
    exact s_unp O.K O.calm O.nd (nm_ok O e1) (hr _ _ h3) hs hw h1
theorem pair_ok (O : Ok C P X) {ts : List Expr} {kt : Nat} {pt pos : Pos} {e : Expr} {c : CS} (h : cPair C m ts e = some c) : PS X (.Assign [.Tuple ts kt pt] e pos) (TSt P c) := by
  obtain ⟨hr, hrT⟩ := cE_ok m C P X O
  unfold cPair at h
  split at h
  · split at h
    · split at h
      · split at h
        · rename_i hc
          obtain ⟨i, h1, h2⟩ := bind_some h
          obtain ⟨j, h3, h4⟩ := bind_some h2
          split at h4
          · rename_i hij
            obtain ⟨cs, h5, rfl⟩ := map_some h4
            obtain ⟨q1, q2, q3⟩ := stor_ok O h1
            obtain ⟨w1, w2, w3⟩ := stor_ok O h3
            have hp := hc.1
            have hl := parTo2 (sc := X.env.scope) (by rw [O.sc]; exact hp)
            exact s_par2 O.calm O.nd q1 w1 hij hl.1 hl.2 (pa_ok O h5) (par2_ok hc.2 (by rw [O.sc]; exact hp)) soleT
          · cases h4
        · split at h
          · rename_i hf
            exact unp_ok O h soleT (by
              rcases hf with hf | hf
              · exact parNo_ok hf
              · exact parCell2 (by rw [O.sc]; exact hf)) each1
          · cases h
      · cases h
    · split at h
      · split at h
        · rename_i hc
          obtain ⟨i, h1, h2⟩ := bind_some h
          obtain ⟨j, h3, h4⟩ := bind_some h2
          obtain ⟨l, h3', h4'⟩ := bind_some h4
          split at h4'
          · rename_i hij
            obtain ⟨cs, h5, rfl⟩ := map_some h4'
            obtain ⟨q1, q2, q3⟩ := stor_ok O h1
            obtain ⟨w1, w2, w3⟩ := stor_ok O h3
            obtain ⟨v1, v2, v3⟩ := stor_ok O h3'
            have hp := hc.1
            have hl := parTo3 (sc := X.env.scope) (by rw [O.sc]; exact hp)
            exact s_par3 O.calm O.nd q1 w1 v1 hij.1 hij.2.1 hij.2.2 hl.1 hl.2.1 hl.2.2 (pa_ok O h5) (par3_ok hc.2.1 hc.2.2.1 hc.2.2.2 (by rw [O.sc]; exact hp)) soleT
          · cases h4'
        · split at h
          · rename_i hf
            exact unp_ok O h soleT (by
              rcases hf with hf | hf
              · exact parNo_ok hf
              · exact parCell3 (by rw [O.sc]; exact hf)) each1
          · cases h
      · cases h
    · exact unp_ok O h soleT (parNo2_ok (by simp)) each1
    · cases h
  · split at h
    · rename_i hn
      obtain ⟨is, h1, h2⟩ := bind_some h
      obtain ⟨ce, h3, rfl⟩ := map_some h2
      exact s_unp O.K O.calm O.nd (nm_ok O h1) (hr _ _ h3) soleT (storesT hn) each1
    · cases h
theorem asg_ok (O : Ok C P X) {tg e : Expr} {pos : Pos} {c : CS} (h : cAsg C m tg e pos = some c) : PS X (.Assign [tg] e pos) (TSt P c) := by
  obtain ⟨hr, hrT⟩ := cE_ok m C P X O
  unfold cAsg at h
  split at h
  · exact one_ok O h
  · exact pair_ok O h
  · split at h
    · rename_i hp
      obtain ⟨i, h1, h2⟩ := bind_some h
      obtain ⟨k, h3, h4⟩ := bind_some h2
      obtain ⟨ce, h5, rfl⟩ := map_some h4
      obtain ⟨q1, q2, q3, q4⟩ := slot_ok O h1
      exact s_sub q1 q2 q3 q4 (hr _ _ h3) (hr _ _ h5) (subA hp) soleS storesS rfl
    · cases h
  · cases h
theorem aug_ok (O : Ok C P X) {tg e : Expr} {op : Operator} {pos : Pos} {c : CS} (h : cAug C m tg op e = some c) : PS X (.AugAssign tg op e pos) (TSt P c) := by
  obtain ⟨hr, hrT⟩ := cE_ok m C P X O
  unfold cAug at h
  split at h
  · obtain ⟨i, h1, h2⟩ := bind_some h
    obtain ⟨ce, h3, rfl⟩ := map_some h2
    obtain ⟨q1, q2, q3⟩ := stor_ok O h1
    exact s_aug O.nd q1 q2 (hr _ _ h3) q3
  · split at h
    · rename_i hp
      obtain ⟨i, h1, h2⟩ := bind_some h
      obtain ⟨k, h3, h4⟩ := bind_some h2
      obtain ⟨ce, h5, rfl⟩ := map_some h4
      obtain ⟨q1, q2, q3, q4⟩ := slot_ok O h1
      exact s_aus q1 q2 q3 q4 (hr _ _ h3) (hr _ _ h5) (augA hp)
    · cases h
  · cases h
theorem exp_ok (O : Ok C P X) {e : Expr} {pos : Pos} {c : CS} (h : cExp C m e = some c) : PS X (.Expr e pos) (TSt P c) := by
  obtain ⟨hr, hrT⟩ := cE_ok m C P X O
  unfold cExp at h
  split at h
  · cases h; exact s_doc
  · split at h
    · rename_i hn
      subst hn
      split at h
      · rename_i hc
        obtain ⟨c1, c2⟩ := hc
        obtain ⟨i, h1, h2⟩ := bind_some h
        obtain ⟨ce, h3, rfl⟩ := map_some h2
        obtain ⟨q1, q2, q3, q4⟩ := slot_ok O h1
        exact s_app q1 q2 q3 q4 (hr _ _ h3) rfl (by rw [star1 c1]; rfl) c2 (star1 c1) rfl rfl
      · cases h
    · obtain ⟨ce, h3, rfl⟩ := map_some h
      exact s_expr (hr _ _ h3) rfl
  · split at h
    · rename_i hn
      obtain ⟨ce, h3, rfl⟩ := map_some h
      exact s_expr (hr _ _ h3) (noComp_ok hn)
    · cases h
theorem cSB_ok (O : Ok C P X) (hp : PassesOwn (model X.prog X.w) X.A X.env X.xe) : ∀ n : Nat, (∀ st c, cS C m n st = some c → PS X st (TSt P c)) ∧ (∀ ss cs, cB C m n ss = some cs → PSs X ss (TSs P cs))
  | 0 => ⟨fun st c h => by simp [cS] at h, fun st c h => by simp [cB] at h⟩
  | n + 1 => by
    obtain ⟨hr, hrT⟩ := cE_ok m C P X O
    obtain ⟨hS, hB⟩ := cSB_ok O hp n
    refine ⟨fun st c h => ?_, fun ss cs h => ?_⟩
    · unfold cS at h
      split at h
      · exact asg_ok O h
      · exact aug_ok O h
      · exact exp_ok O h
      · split at h
        · rename_i hn
          obtain ⟨x, h1, h2⟩ := bind_some h
          obtain ⟨y, h3, h4⟩ := bind_some h2
          obtain ⟨z, h5, rfl⟩ := map_some h4
          exact s_if (hrT _ _ h1 hn) (hB _ _ h3) (hB _ _ h5)
        · cases h
      · split at h
        · rename_i hn
          obtain ⟨k, h1, h2⟩ := bind_some h
          obtain ⟨t, h3, h4⟩ := bind_some h2
          obtain ⟨b, h5, rfl⟩ := map_some h4
          exact s_for hp O.calm (iter_ok O hr h1) (tg_ok O h3) (hB _ _ h5) (noSet_ok hn)
        · cases h
      · split at h
        · rename_i hn
          obtain ⟨x, h1, h2⟩ := bind_some h
          obtain ⟨b, h3, rfl⟩ := map_some h2
          exact s_wh hp (hrT _ _ h1 hn) (hB _ _ h3)
        · cases h
      · exact ret_ok O h
      · cases h; exact s_retN
      · cases h; exact s_pas
      · cases h; exact s_brk
      · cases h; exact s_ctn
      · cases h; exact s_nev
      · cases h
    · cases ss with
      | nil => simp only [cB] at h; cases h; exact s_nil
      | cons s ss =>
        simp only [cB] at h
        obtain ⟨x, h1, h2⟩ := bind_some h
        obtain ⟨y, h3, rfl⟩ := map_some h2
        exact s_cons (hS _ _ h1) (hB _ _ h3)
end
end Ev

set_option Elab.async false
set_option linter.all false
set_option maxRecDepth 100000
set_option maxHeartbeats 2000000
namespace Ev
open PySem PySem.Spec PyProof.Rows L2

/-! ## a table of defs -/
structure De where
  N : List Str
  fi : Fi
  cs : List CS
def nons (n : Nat) : Ro := List.replicate n none
def oldR (ds : List D) : Ro := ds.map fun d => some (d, false)
def ini (N : List Str) (io : Bool) (ds : List D) : Ro := (match io, ds with
  | true, d :: r => some (d, true) :: oldR r
  | _, ds => oldR ds) ++ nons (N.length - ds.length)
def lent (io : Bool) (ρ : Ro) (f : Option D → CR) : CR := if io = true then (match ρ[0]? with
  | some (some (PyData.list e, true)) => f (some (PyData.list e))
  | _ => .bad) else f none
def runD (cal : Cal) (N : List Str) (io : Bool) (cs : List CS) (ds : List D) : CR := match evB cal io cs (ini N io ds) with
  | .nx ρ => lent io ρ (.ok .none)
  | .rt d ρ => lent io ρ (.ok d)
  | .ro ds ρ => lent io ρ (.ow ds)
  | .er c f ρ => lent io ρ (.er c f)
  | _ => .bad
def calN (tbl : List (Str × De)) : Nat → Cal
  | 0, _, _ => .bad
  | n + 1, x, ds => match tbl.lookup x with
    | some e => if ds.length = e.fi.ps.length then runD (calN tbl n) e.N e.fi.io e.cs ds else .bad
    | none => .bad
def fnsOf (tbl : List (Str × De)) : List (Str × Fi) := tbl.map fun y => (y.1, y.2.fi)
theorem fnsOf_lookup {x : Str} {fi : Fi} : ∀ {tbl : List (Str × De)}, (fnsOf tbl).lookup x = some fi → ∃ e, tbl.lookup x = some e ∧ e.fi = fi
  | [], h => by cases h
  | (y, e) :: tbl, h => by
    have h' : List.lookup x ((y, e.fi) :: fnsOf tbl) = some fi := h
    rw [List.lookup_cons] at h' ⊢
    cases hb : x == y with
    | true => rw [hb] at h'; exact ⟨e, rfl, Option.some.inj h'⟩
    | false => rw [hb] at h'; exact fnsOf_lookup h'
/-- a def of the table, as it stands in the written part -/
def DefAt (tbl : List (Str × De)) (gvs : List (Str × D)) (K : PySem.W.Frag) (mg : Str → Option Value) (x : Str) (e : De) (f : Addr) (fd : FuncData) : Prop := ∃ (qual : Str) (st : Stmt) (m n : Nat), mg x = some (.ref f) ∧ Fun K x qual st f fd ∧ FnScope e.N e.fi.ps (defScope st) ∧
    cB ⟨e.N, defScope st, true, fnsOf tbl, gvs, e.fi.ow⟩ m n (defBody st) = some e.cs ∧ Binds K fd e.fi.ps [] ∧ (∀ ks perm, e.fi.kws.lookup ks = some perm → KwB K fd e.fi.ps ks perm)
structure TabOk (tbl : List (Str × De)) (gvs : List (Str × D)) (K : PySem.W.Frag) (mg : Str → Option Value) : Prop where
  defs : ∀ x e, tbl.lookup x = some e → ∃ (f : Addr) (fd : FuncData), DefAt tbl gvs K mg x e f fd
  bl : ∀ x, bltN x = true → mg x = none
  gc : gvs.lookup ("gcd" : Str) ≠ none → mg "gcd" = some (.builtin "math.gcd")
  gvs : ∀ x d, x ≠ ("gcd" : Str) → gvs.lookup x = some d → ∃ u v, mg x = some u ∧ RelV v u ∧ ∀ G, Rp K G v d
section
variable {P : Program} {w : World} {K : PySem.W.Frag} {mg : Str → Option Value} {base : Heap} {tbl : List (Str × De)} {gvs : List (Str × D)}
theorem deeper_guards {A : Around} {env : PySem.Env} (h : A.guards = some []) : (A.deeper env).guards = some [] := h
theorem oldR_get {ds : List D} {n i : Nat} {d : D} {w : Bool} (h : (oldR ds ++ nons n)[i]? = some (some (d, w))) : ds[i]? = some d ∧ w = false := by
  unfold oldR nons at h
  by_cases hi : i < ds.length
  · rw [List.getElem?_append_left (by simpa using hi), List.getElem?_map, List.getElem?_eq_getElem hi] at h
    cases h
    exact ⟨List.getElem?_eq_getElem hi, rfl⟩
  · rw [List.getElem?_append_right (by simpa using hi), List.getElem?_replicate] at h
    split at h <;> cases h
theorem start_get {N : List Str} {vs : List V} {i : Nat} {v : V} (h : vs[i]? = some v) : (start N vs)[i]? = some (some v) := by
  unfold L2.start
  obtain ⟨h1, h2⟩ := List.getElem?_eq_some_iff.mp h
  rw [List.getElem?_append_left (by simpa using h1), List.getElem?_map, h]
  rfl
def PmD (K : PySem.W.Frag) (mg : Str → Option Value) (G H : Hp) (io : Option Addr) (cal : Cal) (E : XK) : Pm := ⟨K, mg, fun b => H b ≠ none ∧ G b = none ∧ io ≠ some b, H, io, cal, fun cls dx _ H' => E cls dx H'⟩
theorem fm_start {G H : Hp} {io : Option Addr} {cal : Cal} {E : XK} {N : List Str} {vs : List V} {ds : List D} (s : Same G H) (ha : ArgC K G H io vs ds) : (PmD K mg G H io cal E).Fm (ini N io.isSome ds) G (start N vs) H := by
  cases io with
  | none =>
    have r : RpAll K G vs ds := ha
    have hl := r.length
    refine ⟨s, ?_, fun i d h => ?_, fun i d h => ?_, fun i j d e a h => ?_, fun b hb => ⟨hb.2.1, rfl, hb.1⟩, fun a h => by cases h⟩
    · show (oldR ds ++ nons _).length = _
      unfold oldR nons L2.start
      simp [hl]
    · obtain ⟨h1, _⟩ := oldR_get (show (oldR ds ++ nons (N.length - ds.length))[i]? = _ from h)
      obtain ⟨v, h2, h3⟩ := r.get h1
      exact ⟨v, start_get h2, h3⟩
    · exact absurd (oldR_get (show (oldR ds ++ nons (N.length - ds.length))[i]? = _ from h)).2 (by decide)
    · exact absurd (oldR_get (show (oldR ds ++ nons (N.length - ds.length))[i]? = _ from h)).2 (by decide)
  | some a =>
    obtain ⟨us, xs, es, rs, rfl, rfl, h1, h2, h3, h4⟩ := ha
    have hl := h4.length
    have ini_eq : ini N (Option.isSome (some a)) (.list es :: rs) = some (.list es, true) :: (oldR rs ++ nons (N.length - (rs.length + 1))) := rfl
    have own0 : ∀ {i : Nat} {d : D}, (ini N (Option.isSome (some a)) (.list es :: rs))[i]? = some (some (d, true)) → i = 0 ∧ d = .list es := fun {i d} h => by
      rw [ini_eq] at h
      cases i with
      | zero => cases h; exact ⟨rfl, rfl⟩
      | succ i => exact absurd (oldR_get (show (oldR rs ++ nons (N.length - (rs.length + 1)))[i]? = _ from h)).2 (by decide)
    refine ⟨s, ?_, fun i d h => ?_, fun i d h => ?_, fun i j d e b h h' _ _ => by rw [(own0 h).1, (own0 h').1], fun b hb => ⟨hb.2.1, rfl, hb.1⟩, fun b h => ?_⟩
    · rw [ini_eq]
      unfold oldR nons L2.start
      simp [hl]
    · rw [ini_eq] at h
      cases i with
      | zero => cases h
      | succ i =>
        obtain ⟨q1, _⟩ := oldR_get (show (oldR rs ++ nons (N.length - (rs.length + 1)))[i]? = _ from h)
        obtain ⟨v, q2, q3⟩ := h4.get q1
        exact ⟨v, start_get (by simpa using q2), q3⟩
    · obtain ⟨rfl, rfl⟩ := own0 h
      exact ⟨a, .lst xs, rfl, h1, h2, fun z => z.2.2 rfl, h3⟩
    · cases h
      rfl
theorem stay_of {G H G' H' : Hp} {io : Option Addr} {cal : Cal} {E : XK} {ρ : Ro} {σ : L2.St} (fm : (PmD K mg G H io cal E).Fm ρ G' σ H') : Stay G H io G' H' := fun b h1 h2 h3 => by
  obtain ⟨q1, q2, _⟩ := fm.zg b ⟨h1, h2, h3⟩
  exact ⟨q2, q1⟩
theorem lent_of {G H G' H' : Hp} {io : Option Addr} {cal : Cal} {E : XK} {ρ : Ro} {σ : L2.St} {f : Option D → CR} (fm : (PmD K mg G H io cal E).Fm ρ G' σ H') {r : CR} (e : lent io.isSome ρ f = r) (hb : r ≠ .bad) : ∃ d0, r = f d0 ∧ Lent K io d0 G' H' := by
  cases io with
  | none => exact ⟨none, e.symm, trivial⟩
  | some a =>
    unfold lent at e
    rw [if_pos (show Option.isSome (some a) = true from rfl)] at e
    split at e
    · rename_i d hd
      obtain ⟨b, xs, q1, q3, q4, q5, q6⟩ := fm.owL hd
      have q7 := fm.at0 a rfl
      rw [q7] at q1
      cases q1
      exact ⟨_, e.symm, q4, xs, q3, q6⟩
    · exact absurd e.symm hb
theorem end_bad {G H : Hp} {io : Option Addr} {r : CR} {Q : VK} {E : XK} (h : EndC K mg G H io r Q E) : r ≠ .bad := fun z => by rw [z] at h; exact h
/-- what a body gives, as what a call gives -/
theorem end_body {G H : Hp} {io : Option Addr} {cal : Cal} {Q : VK} {E : XK} {N : List Str} {cs : List CS} {ds : List D} (h : EndC K mg G H io (runD cal N io.isSome cs ds) Q E) :
    OutS (PmD K mg G H io cal E) G (evB cal io.isSome cs (ini N io.isSome ds)) { nx := fun _ H' => Q .non H', rt := Q } := by
  have hb := end_bad h
  unfold runD at h hb
  cases hq : evB cal io.isSome cs (ini N io.isSome ds) with
  | nx ρ =>
    rw [hq] at h hb
    intro σ G' H' s fm
    obtain ⟨d0, e, ln⟩ := lent_of fm rfl hb
    simp only at h
    rw [e] at h
    exact h .non G' H' s fm.sub (stay_of fm) .non ln
  | rt d ρ =>
    rw [hq] at h hb
    intro σ v G' H' s fm rp
    obtain ⟨d0, e, ln⟩ := lent_of fm rfl hb
    simp only at h
    rw [e] at h
    exact h v G' H' s fm.sub (stay_of fm) rp ln
  | ro ds ρ =>
    rw [hq] at h hb
    intro σ p xs G' H' s fm hp gp zp np rp
    have hH : H p = none := by
      apply Classical.byContradiction
      intro hn
      have gp0 : G p = none := by
        cases q : G p with
        | none => rfl
        | some o => rw [s _ _ q] at gp; cases gp
      have hio : io = some p := by
        apply Classical.byContradiction
        intro z
        exact zp ⟨hn, gp0, z⟩
      subst hio
      simp only [lent] at hb
      rw [if_pos (show Option.isSome (some p) = true from rfl)] at hb
      split at hb
      · rename_i d hd
        exact np 0 _ hd (fm.at0 p rfl)
      · exact hb rfl
    obtain ⟨d0, e, ln⟩ := lent_of fm rfl hb
    simp only at h
    rw [e] at h
    exact h p xs G' H' s fm.sub (stay_of fm) hH gp hp rp ln
  | er c f ρ =>
    rw [hq] at h hb
    intro σ cls dx G' H' s fm er
    obtain ⟨d0, e, ln⟩ := lent_of fm rfl hb
    simp only at h
    rw [e] at h
    exact h cls dx G' H' s fm.sub (stay_of fm) er ln
  | bk ρ => rw [hq] at hb; exact absurd rfl hb
  | ct ρ => rw [hq] at hb; exact absurd rfl hb
  | bad => rw [hq] at hb; exact absurd rfl hb
theorem argC_len {G H : Hp} {io : Option Addr} {vs : List V} {ds : List D} (h : ArgC K G H io vs ds) : vs.length = ds.length := by
  cases io with
  | none => exact RpAll.length h
  | some a =>
    obtain ⟨us, xs, es, rs, rfl, rfl, _, _, _, h4⟩ := h
    rw [List.length_cons, List.length_cons, h4.length]
/-- THE RULE: every def of the table, at every depth -/
theorem tab_all (T : TabOk tbl gvs K mg) : ∀ (n : Nat) (x : Str) (e : De) (f : Addr) (fd : FuncData), tbl.lookup x = some e → DefAt tbl gvs K mg x e f fd → FnG P w K mg base n f fd e.fi.ps (spD K mg (calN tbl n) x e.fi.io e.fi.ps.length)
  | 0, x, e, f, fd, he, _ => ⟨fun vs H Q E ⟨G, ds, io, hl, _⟩ => hl, fun A outer s H args us vs Q E _ _ _ _ _ ⟨G, ds, io, _, _, _, _, h⟩ => absurd rfl (end_bad h)⟩
  | n + 1, x, e, f, fd, he, ⟨qual, st, m, n', h1, h2, h3, h4, h5, h6⟩ => by
    refine fnG_of h2 h3 (fun vs H Q E ⟨G, ds, io, hl, _⟩ => hl) (fun cdv A outer s H vs Q E hr hg ⟨G, ds, io, hl, sg, hio, ha, h⟩ => ?_)
    have hne := end_bad h
    have e1 : calN tbl (n + 1) x ds = runD (calN tbl n) e.N e.fi.io e.cs ds := by
      show (match tbl.lookup x with | some e => _ | none => CR.bad) = _
      rw [he]
      exact if_pos (by rw [← argC_len ha]; exact hl)
    rw [e1, ← hio] at h
    have O : Ok ⟨e.N, defScope st, true, fnsOf tbl, gvs, e.fi.ow⟩ (PmD K mg G H io (calN tbl n) E) (cxOf (L2.CX P w) P w K mg base e.N qual (defScope st) f cdv A outer s H E) :=
      ⟨rfl, h3.nd, rfl, fun _ _ => rfl, rfl, rfl, rfl, deeper_guards hg, by have := hr.un; show (A.deeper _).units + 100 < cLine; omega,
        takes_of (X := cxOf (L2.CX P w) P w K mg base e.N qual (defScope st) f cdv A outer s H E) rfl rfl rfl rfl, fun y fi hy => by
          obtain ⟨e', he', rfl⟩ := fnsOf_lookup hy
          obtain ⟨f', fd', D'⟩ := T.defs y e' he'
          obtain ⟨_, _, _, _, q1, q2, _, _, q5, q6⟩ := id D'
          exact ⟨f', fd', n, hr, q1, q2.kp, tab_all T n y e' f' fd' he' D', q5, q6⟩, T.bl, T.gvs, T.gc⟩
    refine ⟨_, (cSB_ok (m := m) O (passes_of rfl) n').2 _ _ h4, ini e.N io.isSome ds, G, fm_start sg ha, ?_⟩
    exact end_body h
end
end Ev

set_option Elab.async false
set_option linter.all false
set_option maxRecDepth 100000
set_option maxHeartbeats 2000000
namespace Ev
open PySem PySem.Spec PyProof.Rows L2 PySem.W

/-! ## the law's own call -/
section
variable {P : Program} {w : World} {K : PySem.W.Frag} {gm bm : Str → Option Value} {k : Nat} {fa l : Addr} {fd : FuncData} {x : Str} {sp : Sp} {s0 : Shared} {items : List Value} {nums : List Int}
theorem run_core {H : Hp} (inK : K.In s0.heap) (glo : s0.heap.Ns mainGlobals gm) (blo : s0.heap.Ns builtinsNs bm) (bas : ∀ y : Str, y ≠ "__name__" → bm y = bootBuiltins y) (nol : s0.heap.NoLimit) (gen0 : s0.gens = #[])
    (obj : s0.heap.get? l = some { cls := .type "list", data := .seq items.toArray }) (room : Room k callerA)
    (F : ∀ base : Heap, K.In base → base.Ns mainGlobals gm → FnG P w K gm base k fa fd [x] sp) (bind : ∀ (s : Shared) (u : Value), K.In s.heap → BindsTo s fd ⟨[u], []⟩ [(x, u)])
    (spc : sp [.ref l] H (fun v _ => v = .bl true) fun _ _ _ => False) (only : Only H) (hok : HOk P w H s0.heap) (alone : ∀ b, H b ≠ none → b = l) (notK : H l ≠ none → K.lookup l = none) :
    codeAny (model P w) callerA (.call (.ref fa) ⟨[.ref l], []⟩) (fun r s' => r = .ok (.ret (.bool true)) ∧ OldK s0.heap s'.heap ∧ s'.os = s0.os ∧ AllBare s'.gens) s0 := by
  let B : Heap := hidT s0.heap H
  have toB : ∀ {b : Addr} {o : Obj}, s0.heap.get? b = some o → H b = none → B.get? b = some o := fun q z => hidT_get q z
  have dictFree : ∀ {b : Addr} {o : Obj} {es : Array DictEntry} {ep : Nat}, s0.heap.get? b = some o → o.data = .dict es ep → H b = none := fun {b o es ep} q d => by
    apply Classical.byContradiction
    intro z
    have e := alone b z
    subst e
    rw [obj] at q
    cases q
    cases d
  have nsB : ∀ {b : Addr} {m : Str → Option Value}, s0.heap.Ns b m → B.Ns b m := fun {b m} ⟨o, es, ep, q, d, r⟩ => ⟨o, es, ep, toB q (dictFree q d), d, r⟩
  have KB : K.In B := fun b o q => toB (inK b o q) (by
    apply Classical.byContradiction
    intro z
    have e := alone b z
    subst e
    rw [notK z] at q
    cases q)
  have modB : Mod K gm B := ⟨KB, nsB glo, ⟨bm, nsB blo, bas⟩, let ⟨mc, q1, q2⟩ := nol; ⟨mc, nsB q1, q2⟩⟩
  have none_in : ∀ {b : Addr}, ¬ b ∈ frs ([] : List PySem.Env) := fun {b} z => by cases z
  have env0 : Env0 P w K gm B callerA [] s0 H := ⟨rfl, modB, fun b o q => of_hidT q, Nat.le_of_eq (hidT_size _ _), trivial, fun b z => absurd z none_in, hok, .of_eq gen0⟩
  refine codeAny_mono ((F B KB (nsB glo)).run callerA [] s0 H ⟨[.ref l], []⟩ [.ref l] [.ref l] _ _ room rfl env0 (bind s0 (.ref l) inK) (.cons rfl .nil) spc) fun r s' fin => ?_
  cases r with
  | error e =>
    obtain ⟨a, B', H', cls, d, _, _, _, _, _, _, _, z⟩ := fin
    exact z.elim
  | ok fl =>
    cases fl with
    | ret u =>
      obtain ⟨v, H', os, bare, un, hok', rel, z⟩ := fin
      have z' : v = .bl true := z
      subst z'
      obtain rfl : u = Value.bool true := rel
      refine ⟨rfl, OldK.of_keep fun b o q => ?_, os, bare⟩
      cases hb : H b with
      | none => exact un.keep b o q hb none_in (by simp)
      | some t =>
        rcases only b with z | ⟨ob, xs, z⟩
        · rw [hb] at z; cases z
        · obtain ⟨e1, _⟩ := hok b _ z
          obtain ⟨e2, _⟩ := hok' b _ (un.frzs b ob _ z)
          rw [q] at e1
          cases e1
          exact e2
    | _ => exact fin.elim
theorem run_law (inK : K.In s0.heap) (glo : s0.heap.Ns mainGlobals gm) (blo : s0.heap.Ns builtinsNs bm) (bas : ∀ y : Str, y ≠ "__name__" → bm y = bootBuiltins y) (nol : s0.heap.NoLimit) (gen0 : s0.gens = #[])
    (obj : s0.heap.get? l = some { cls := .type "list", data := .seq items.toArray }) (sInts : IntsAre items nums) (small : nums.length ≤ sizeLine) (room : Room k callerA)
    (F : ∀ base : Heap, K.In base → base.Ns mainGlobals gm → FnG P w K gm base k fa fd [x] sp) (bind : ∀ (s : Shared) (u : Value), K.In s.heap → BindsTo s fd ⟨[u], []⟩ [(x, u)])
    (spc : ∀ H : Hp, Ls K H l (nums.map V.int) → sp [.ref l] H (fun v _ => v = .bl true) fun _ _ _ => False) :
    codeAny (model P w) callerA (.call (.ref fa) ⟨[.ref l], []⟩) (fun r s' => r = .ok (.ret (.bool true)) ∧ OldK s0.heap s'.heap ∧ s'.os = s0.os ∧ AllBare s'.gens) s0 := by
  have rel := vals_ints sInts
  have len := sInts.length
  let frz : HO := .frz { cls := .type "list", data := .seq items.toArray } (.lst (nums.map V.int))
  by_cases inside : K.lookup l = none
  · have at0 : (fun b => if b = l then some frz else none : Hp) l = some frz := if_pos rfl
    refine run_core (H := fun b => if b = l then some frz else none) inK glo blo bas nol gen0 obj room F bind (spc _ (.inl (.inr ⟨_, at0⟩))) (fun b => ?_) (fun b u z => ?_) (fun b z => ?_) fun _ => inside
    · by_cases e : b = l
      · exact .inr ⟨_, _, if_pos e⟩
      · exact .inl (if_neg e)
    · by_cases e : b = l
      · subst e
        rw [at0] at z
        cases z
        exact ⟨obj, by rw [List.length_map]; exact small, items, _, rel, obj⟩
      · rw [show (fun b => if b = l then some frz else none : Hp) b = none from if_neg e] at z
        cases z
    · by_cases e : b = l
      · exact e
      · exact absurd (if_neg e) z
  · obtain ⟨o, ho⟩ : ∃ o, K.lookup l = some o := by
      cases q : K.lookup l with
      | none => exact absurd q inside
      | some o => exact ⟨o, rfl⟩
    have q := inK l o ho
    rw [obj] at q
    cases q
    exact run_core (H := fun _ => none) inK glo blo bas nol gen0 obj room F bind (spc _ (.inr ⟨items, _, ho, by rw [len]; exact small, rel⟩)) (fun _ => .inl rfl) (fun b u z => by cases z) (fun b z => absurd rfl z) fun z => absurd rfl z
end
theorem row_of {l : PySem.W.OpenLaw} {n k : Nat} {q : Program} {loose : List Str} {XP : (Str → Option Value) → Heap → Prop} {YP : World → Heap → Prop} {d : DefRec} {K : Params → PySem.W.Frag} {x : Str}
    (most : l.most = some n) (small : n ≤ sizeLine) (plain : d.params.defaults = []) (room : Room k callerA) (hY : ∀ (w : World) (h : Heap), YP w h → (K w.params).In h)
    (F : ∀ (w : World) (mg : Str → Option Value) (fa : Addr) (h : Heap), (K w.params).In h → h.Ns mainGlobals mg → mg d.name = some (.ref fa) →
      ∃ (fd : FuncData) (sp : Sp), (∀ (s : Shared) (u : Value), (K w.params).In s.heap → BindsTo s fd ⟨[u], []⟩ [(x, u)]) ∧ (∀ base : Heap, (K w.params).In base → base.Ns mainGlobals mg → FnG l.prog w (K w.params) mg base k fa fd [x] sp) ∧
        ∀ (H : Hp) (a : Addr) (ns : List Int), ns.length ≤ n → Ls (K w.params) H a (ns.map V.int) → sp [.ref a] H (fun v _ => v = .bl true) fun _ _ _ => False) :
    PySem.W.WalkO q loose XP YP l.row.toRowW d [] (fun f vs => PySem.call f vs) := by
  refine Att.attach_call most plain fun w t₀ t mg mb fa o pm cd doc a vs ns G Y ho hd hcd hmg hobj hints hlen hgens => ?_
  have inK := hY w _ Y
  obtain ⟨fd, sp, bind, hF, hsp⟩ := F w mg fa _ inK G.T.g hmg
  exact run_law inK G.T.g G.T.b G.T.builtins G.T.nolimit hgens hobj hints (Nat.le_trans hlen small) room hF bind fun H hS => hsp H a ns hlen hS
end Ev

set_option Elab.async false
set_option linter.all false
set_option maxRecDepth 100000
set_option maxHeartbeats 2000000
namespace Ev
open PySem PySem.Spec PyProof.Rows L2 PySem.W

/-! ## the table, def by def -/
/-- what the written part holds of a def -/
def InK (K : PySem.W.Frag) (x : Str) (st : Stmt) : Prop := ∃ (f : Addr) (oc : Value) (od an : Option Addr) (osl : Array (Option Value)) (kV doc pm cdv ct : Value), PySem.W.nsIn K mainGlobals x = some (some (.ref f)) ∧
  K.lookup f = some ⟨oc, od, .func (PySem.W.fnOf x x (defArgs st) (defBody st) (defScope st) .none kV doc pm an cdv ct), osl⟩ ∧ PySem.W.codeIn K cdv x = true ∧ PySem.W.keepIn K (.ref f) = true
theorem inK_mk {K : PySem.W.Frag} {x : Str} {st : Stmt} {f : Addr} {oc : Value} {od an : Option Addr} {osl : Array (Option Value)} {kV doc pm cdv ct : Value} (a : PySem.W.nsIn K mainGlobals x = some (some (.ref f)))
    (l : K.lookup f = some ⟨oc, od, .func (PySem.W.fnOf x x (defArgs st) (defBody st) (defScope st) .none kV doc pm an cdv ct), osl⟩) (c : PySem.W.codeIn K cdv x = true) (k : PySem.W.keepIn K (.ref f) = true) : InK K x st :=
  ⟨f, oc, od, an, osl, kV, doc, pm, cdv, ct, a, l, c, k⟩
/-- what is checked of a def's text -/
structure TxOk (fns : List (Str × Fi)) (gvs : List (Str × D)) (x : Str) (e : De) (st : Stmt) : Prop where
  sc : FnScope e.N e.fi.ps (defScope st)
  code : cB ⟨e.N, defScope st, true, fns, gvs, e.fi.ow⟩ 60 60 (defBody st) = some e.cs
  pos : ∀ (kV doc pm : Value) (an : Option Addr) (cdv ct : Value) (us : List Value), us.length = e.fi.ps.length → bindArgs (PySem.W.fnOf x x (defArgs st) (defBody st) (defScope st) .none kV doc pm an cdv ct) ⟨us, []⟩ = pure (e.fi.ps.zip us)
  kws : ∀ ks perm, e.fi.kws.lookup ks = some perm → ∀ (kV doc pm : Value) (an : Option Addr) (cdv ct : Value) (ws us : List Value), ws.length = ks.length → perm.mapM (fun i => ws[i]?) = some us →
    bindArgs (PySem.W.fnOf x x (defArgs st) (defBody st) (defScope st) .none kV doc pm an cdv ct) ⟨[], ks.zip ws⟩ = pure (e.fi.ps.zip us)
def AllTx (fns : List (Str × Fi)) (gvs : List (Str × D)) : List (Str × De) → List Stmt → Prop
  | [], [] => True
  | (x, e) :: r, st :: sts => TxOk fns gvs x e st ∧ AllTx fns gvs r sts
  | _, _ => False
def AllK (K : PySem.W.Frag) : List (Str × De) → List Stmt → Prop
  | [], [] => True
  | (x, e) :: r, st :: sts => InK K x st ∧ AllK K r sts
  | _, _ => False
theorem all_at {fns : List (Str × Fi)} {gvs : List (Str × D)} {K : PySem.W.Frag} {x : Str} {e : De} : ∀ {tbl : List (Str × De)} {sts : List Stmt}, AllTx fns gvs tbl sts → AllK K tbl sts → tbl.lookup x = some e → ∃ st, TxOk fns gvs x e st ∧ InK K x st
  | [], sts, _, _, h => by cases h
  | (y, e') :: tbl, [], h1, _, _ => h1.elim
  | (y, e') :: tbl, st :: sts, h1, h2, h => by
    rw [List.lookup_cons] at h
    cases hb : x == y with
    | true =>
      rw [hb] at h
      cases h
      have e : x = y := by simpa using hb
      subst e
      exact ⟨st, h1.1, h2.1⟩
    | false =>
      rw [hb] at h
      exact all_at h1.2 h2.2 h
def bltL : List Str := biL.map biN ++ othL
theorem bltN_in {x : Str} (h : bltN x = true) : x ∈ bltL := by
  unfold bltN at h
  unfold bltL
  rw [Bool.or_eq_true, List.any_eq_true, List.any_eq_true] at h
  rcases h with ⟨f, h1, h2⟩ | ⟨y, h1, h2⟩
  · exact List.mem_append_left _ (List.mem_map.mpr ⟨f, h1, of_decide_eq_true h2⟩)
  · exact List.mem_append_right _ (by rw [← of_decide_eq_true h2]; exact h1)
theorem tab_mk {fns : List (Str × Fi)} {gvs : List (Str × D)} {K : PySem.W.Frag} {tbl : List (Str × De)} {sts : List Stmt} {h : Heap} {mg : Str → Option Value} (hf : fns = fnsOf tbl) (KX : K.In h) (G : h.Ns mainGlobals mg) (A : AllTx fns gvs tbl sts) (B : AllK K tbl sts)
    (bl : ∀ x ∈ bltL, PySem.W.nsIn K mainGlobals x = some none) (gv : ∀ x d, x ≠ ("gcd" : Str) → gvs.lookup x = some d → ∃ u v, PySem.W.nsIn K mainGlobals x = some (some u) ∧ RelV v u ∧ ∀ G, Rp K G v d) (gc : gvs.lookup ("gcd" : Str) ≠ none → PySem.W.nsIn K mainGlobals "gcd" = some (some (.builtin "math.gcd"))) : TabOk tbl gvs K mg where
  defs := fun x e he => by
    subst hf
    obtain ⟨st, t, f, oc, od, an, osl, kV, doc, pm, cdv, ct, a, l, c, k⟩ := all_at A B he
    have F := fun_mk (st := st) l c k
    exact ⟨f, _, x, st, 60, 60, PySem.W.mg_of KX G a, F, t.sc, t.code, F.binds t.pos, fun ks perm q s ws us _ h1 h2 => .of_eq (t.kws ks perm q kV doc pm an cdv ct ws us h1 h2)⟩
  bl := fun x hx => PySem.W.mg_none_of KX G (bl x (bltN_in hx))
  gvs := fun x d hx hd => let ⟨u, v, q1, q2, q3⟩ := gv x d hx hd; ⟨u, v, PySem.W.mg_of KX G q1, q2, q3⟩
  gc := fun h => PySem.W.mg_of KX G (gc h)
theorem ints_rp {K : PySem.W.Frag} {H : Hp} : ∀ ns : List Int, RpAll K H (ns.map V.int) (ns.map PyData.int)
  | [] => .nil
  | n :: ns => .cons (.int n) (ints_rp ns)
/-- the law's row, from what the evaluator says of it -/
theorem law_F {P : Program} {w : World} {gvs : List (Str × D)} {K : PySem.W.Frag} {tbl : List (Str × De)} {mg : Str → Option Value} {n : Nat} {e : De} {fa : Addr} {k : Nat} (T : TabOk tbl gvs K mg) (he : tbl.lookup (Str.ofString "law") = some e) (hp : e.fi = ⟨false, false, ["script"], []⟩) (hmg : mg "law" = some (.ref fa))
    (hl : ∀ ns : List Int, ns.length ≤ n → calN tbl k "law" [.list (ns.map .int)] = .ok (.bool true) none) :
    ∃ (fd : FuncData) (sp : Sp), (∀ (s : Shared) (u : Value), K.In s.heap → BindsTo s fd ⟨[u], []⟩ [(("script" : Str), u)]) ∧ (∀ base : Heap, K.In base → base.Ns mainGlobals mg → FnG P w K mg base k fa fd ["script"] sp) ∧
      ∀ (H : Hp) (a : Addr) (ns : List Int), ns.length ≤ n → Ls K H a (ns.map V.int) → sp [.ref a] H (fun v _ => v = .bl true) fun _ _ _ => False := by
  obtain ⟨f, fd, D⟩ := T.defs "law" e he
  obtain ⟨qual, st, m, n', h1, h2, h3, h4, h5, h6⟩ := id D
  rw [hp] at h5
  have ef : f = fa := by rw [hmg] at h1; cases h1; rfl
  subst ef
  refine ⟨fd, spD K mg (calN tbl k) "law" false 1, fun s u ks => h5 s [u] ks rfl, fun base _ _ => ?_, fun H a ns hn hs => ⟨H, [.list (ns.map .int)], none, rfl, Same.refl H, rfl, .cons (.lst hs (ints_rp ns)) .nil, ?_⟩⟩
  · have q := tab_all (P := P) (w := w) (base := base) T k "law" e f fd he D
    rw [hp] at q
    exact q
  · rw [hl ns hn]
    intro v G' H' _ _ _ rp _
    cases rp
    rfl
/-! what the written part says, fact by fact -/
def bltS : List Str := ["abs", "max", "min", "int", "len", "str", "list", "tuple", "divmod", "sum", "all", "repr", "sorted", "isinstance", "bool", "range", "enumerate", "zip", "reversed", "set", "any"]
theorem bltS_all : ∀ x ∈ bltL, x ∈ bltS := by decide +kernel
def BlK (K : PySem.W.Frag) : List Str → Prop
  | [] => True
  | x :: xs => PySem.W.nsIn K mainGlobals x = some none ∧ BlK K xs
theorem blK_at {K : PySem.W.Frag} {x : Str} : ∀ {xs : List Str}, BlK K xs → x ∈ xs → PySem.W.nsIn K mainGlobals x = some none
  | [], _, h => by cases h
  | y :: ys, b, h => by
    rcases List.mem_cons.mp h with e | e
    · rw [e]; exact b.1
    · exact blK_at b.2 e
def GvK0 (K : PySem.W.Frag) (x : Str) (d : D) : Prop := ∃ u v, PySem.W.nsIn K mainGlobals x = some (some u) ∧ RelV v u ∧ ∀ G, Rp K G v d
def GvK (K : PySem.W.Frag) (x : Str) (d : D) : Prop := (x ≠ ("gcd" : Str) → GvK0 K x d) ∧ (x = ("gcd" : Str) → PySem.W.nsIn K mainGlobals "gcd" = some (some (.builtin "math.gcd")))
theorem gv_of {K : PySem.W.Frag} {x : Str} {d : D} (h : GvK0 K x d) (hx : x ≠ ("gcd" : Str) := by decide) : GvK K x d := ⟨fun _ => h, fun z => absurd z hx⟩
theorem gv_gcd {K : PySem.W.Frag} {d : D} (h : PySem.W.nsIn K mainGlobals "gcd" = some (some (.builtin "math.gcd"))) : GvK K "gcd" d := ⟨fun z => absurd rfl z, fun _ => h⟩
def GvAll (K : PySem.W.Frag) : List (Str × D) → Prop
  | [] => True
  | (x, d) :: r => GvK K x d ∧ GvAll K r
theorem gv_at {K : PySem.W.Frag} {x : Str} {d : D} : ∀ {l : List (Str × D)}, GvAll K l → l.lookup x = some d → GvK K x d
  | [], _, h => by cases h
  | (y, e) :: r, g, h => by
    rw [List.lookup_cons] at h
    cases hb : x == y with
    | true =>
      rw [hb] at h
      cases h
      have e : x = y := by simpa using hb
      subst e
      exact g.1
    | false =>
      rw [hb] at h
      exact gv_at g.2 h
theorem gv_str {K : PySem.W.Frag} {x s : Str} {t : Tok} (h : PySem.W.nsIn K mainGlobals x = some (some (.str s t))) : GvK0 K x (.str s) := ⟨_, .str s, h, ⟨t, rfl⟩, fun _ => .str s⟩
theorem gv_int {K : PySem.W.Frag} {x : Str} {i : Int} {t : Tok} (h : PySem.W.nsIn K mainGlobals x = some (some (.int i t))) : GvK0 K x (.int i) := ⟨_, .int i, h, ⟨t, rfl⟩, fun _ => .int i⟩
def strsD (zs : List Str) : D := .tuple (zs.map .str)
theorem strs_rp {K : PySem.W.Frag} {G : Hp} : ∀ zs : List Str, RpAll K G (zs.map V.str) (zs.map PyData.str)
  | [] => .nil
  | z :: zs => .cons (.str z) (strs_rp zs)
theorem gv_tup {K : PySem.W.Frag} {x : Str} {a : Addr} {od : Option Addr} {its : Array Value} {n : Nat} {sl : Array (Option Value)} (zs : List Str) (h : PySem.W.nsIn K mainGlobals x = some (some (.ref a))) (l : K.lookup a = some ⟨.type "tuple", od, .seq its n, sl⟩) (z : its.size ≤ sizeLine) (r : Vals (zs.map V.str) its.toList) : GvK0 K x (strsD zs) :=
  ⟨_, .ref a, h, rfl, fun G => .tup (.inr ⟨_, its, n, l, rfl, rfl, z, r⟩) (strs_rp zs)⟩
theorem tab_go {fns : List (Str × Fi)} {gvs : List (Str × D)} {K : PySem.W.Frag} {tbl : List (Str × De)} {sts : List Stmt} {h : Heap} {mg : Str → Option Value} (hf : fns = fnsOf tbl) (A : AllTx fns gvs tbl sts) (KX : K.In h) (G : h.Ns mainGlobals mg) (B : AllK K tbl sts) (bl : BlK K bltS) (gv : GvAll K gvs) : TabOk tbl gvs K mg :=
  tab_mk hf KX G A B (fun x hx => blK_at bl (bltS_all x hx)) (fun x d hx hd => (gv_at gv hd).1 hx) fun h => by
    cases q : gvs.lookup ("gcd" : Str) with
    | none => exact absurd q h
    | some d => exact (gv_at gv q).2 rfl
end Ev

namespace Ev
open PySem
theorem lookup_mem {β : Type} {x : List Str} {y : β} : ∀ {l : List (List Str × β)}, l.lookup x = some y → (x, y) ∈ l
  | [], h => by cases h
  | (k, v) :: l, h => by
    rw [List.lookup_cons] at h
    cases hb : x == k with
    | true =>
      rw [hb] at h
      cases h
      have e : x = k := by simpa using hb
      subst e
      exact List.mem_cons_self
    | false =>
      rw [hb] at h
      exact List.mem_cons_of_mem _ (lookup_mem h)
end Ev

set_option Elab.async false
set_option linter.all false
set_option maxRecDepth 100000
set_option maxHeartbeats 2000000
namespace Ev
open PySem PySem.Spec PyProof.Rows L2
/-! ## words about codes -/
theorem comp_filter {st : D → Ro → Option Ro} {own : List Nat} {cnd : Ro → Rs Bool} {elt : Ro → Rs D} {p : D → Bool} {g : D → D} {ρ0 : Ro} : ∀ {xs acc : List D}, (∀ x ∈ xs, ∃ ρ1 ρ2, st x ρ0 = some ρ1 ∧ cnd ρ1 = .ok (p x) ρ2 ∧ (p x = true → ∃ ρ3, elt ρ2 = .ok (g x) ρ3 ∧ wipeR ρ3 own = ρ0) ∧ (p x = false → wipeR ρ2 own = ρ0)) →
    acc.length + xs.length ≤ lim → compL st own cnd elt xs ρ0 acc = .ok (acc ++ (xs.filter p).map g) ρ0
  | [], acc, _, _ => by simp [compL]
  | x :: xs, acc, h, hl => by
    obtain ⟨ρ1, ρ2, h1, h2, h3, h4⟩ := h x List.mem_cons_self
    rw [List.length_cons] at hl
    unfold compL
    rw [h1]
    simp only [h2, noEr, Rs.bind_ok]
    cases hp : p x with
    | true =>
      obtain ⟨ρ3, h5, h6⟩ := h3 hp
      rw [if_pos rfl, h5]
      simp only [noEr, Rs.bind_ok]
      rw [if_pos (by omega), h6, comp_filter (fun y hy => h y (List.mem_cons_of_mem _ hy)) (by rw [List.length_append, List.length_singleton]; omega)]
      rw [List.filter_cons, if_pos hp]
      simp
    | false =>
      rw [if_neg Bool.false_ne_true, h4 hp, comp_filter (fun y hy => h y (List.mem_cons_of_mem _ hy)) (by omega)]
      rw [List.filter_cons, if_neg (by rw [hp]; exact Bool.false_ne_true)]
theorem for_inv {st : D → Ro → Option Ro} {body : Ro → SR} (I : Nat → Ro → Prop) : ∀ {xs : List D} {k : Nat} {ρ : Ro}, (∀ i x ρ, xs[i]? = some x → I (k + i) ρ → ∃ ρ1 ρ2, st x ρ = some ρ1 ∧ body ρ1 = .nx ρ2 ∧ I (k + i + 1) ρ2) → I k ρ → ∃ ρ', forL st body xs ρ = .nx ρ' ∧ I (k + xs.length) ρ'
  | [], k, ρ, _, h0 => ⟨ρ, rfl, h0⟩
  | x :: xs, k, ρ, h, h0 => by
    obtain ⟨ρ1, ρ2, h1, h2, h3⟩ := h 0 x ρ rfl h0
    obtain ⟨ρ', h4, h5⟩ := for_inv I (xs := xs) (k := k + 1) (ρ := ρ2) (fun i y σ hy hi => by
      have := h (i + 1) y σ (by simpa using hy) (by rw [show k + (i + 1) = k + 1 + i by omega]; exact hi)
      rwa [show k + (i + 1) + 1 = k + 1 + i + 1 by omega] at this) h3
    refine ⟨ρ', ?_, by rw [List.length_cons, show k + (xs.length + 1) = k + 1 + xs.length by omega]; exact h5⟩
    unfold forL
    rw [h1]
    simp only [h2]
    exact h4
end Ev

set_option Elab.async false
set_option linter.all false
set_option maxRecDepth 100000
set_option maxHeartbeats 4000000
namespace Ev
set_option exponentiation.threshold 5000
open PySem PySem.Spec PyProof.Rows L2
def drawC : List CS := [.iff (.cmp .Gt (.idv 0 (.cst (PyData.int 0))) (.cst (PyData.int 0))) [.asg 3 (.bin .Mod (.blt .int [(.idv 0 (.cst (PyData.int 0)))]) (.var 1)), .sub 0 (.cst (PyData.int 0)) (.bin .FloorDiv (.idv 0 (.cst (PyData.int 0))) (.var 1)), .ret (.var 3)] [], .sub 0 (.cst (PyData.int 2)) (.bin .Add (.idv 0 (.cst (PyData.int 2))) (.cst (PyData.int 1))), .asg 2 (.bin .Add (.idv 0 (.cst (PyData.int 1))) (.bin .Mult (.cst (PyData.int 2750159)) (.idv 0 (.cst (PyData.int 2))))), .asg 2 (.bin .Add (.bin .Mod (.blt .int [(.bin .Pow (.var 2) (.cst (PyData.int 3)))]) (.bin .Add (.bin .Pow (.cst (PyData.int 10)) (.cst (PyData.int 38))) (.cst (PyData.int 133)))) (.bin .Mult (.cst (PyData.int 7368787)) (.idv 0 (.cst (PyData.int 2))))), .asg 2 (.bin .Mod (.blt .int [(.bin .Pow (.var 2) (.cst (PyData.int 3)))]) (.bin .Add (.bin .Pow (.cst (PyData.int 10)) (.cst (PyData.int 41))) (.cst (PyData.int 217)))), .ret (.bin .Mod (.blt .int [(.bin .FloorDiv (.var 2) (.cst (PyData.int 1000003)))]) (.var 1))]
def SrcOk (C : Nat) (s : List D) : Prop := ∃ a b c : Int, s = [.int a, .int b, .int c] ∧ 0 ≤ a ∧ 0 ≤ b ∧ b < 2 ^ 80 ∧ 0 ≤ c ∧ c ≤ C
theorem at3_0 {a b c : D} : atI [a, b, c] 0 = some a := rfl
theorem at3_1 {a b c : D} : atI [a, b, c] 1 = some b := rfl
theorem at3_2 {a b c : D} : atI [a, b, c] 2 = some c := rfl
theorem ix3_0 : ixN 3 0 = some 0 := rfl
theorem ix3_2 : ixN 3 2 = some 2 := rfl
theorem bigG_of {i : Int} (h : i.natAbs < 2 ^ 4096) : bigG i = true := decide_eq_true h
theorem smG_c {i : Int} (h : i.natAbs < 2 ^ 64) : smG i = true := decide_eq_true h
theorem opD_mul {i j : Int} (h : i.natAbs < 2 ^ 64) : opD .Mult (.int i) (.int j) = some (.int (i * j)) := by
  show (if (smG i || smG j || (bigG i && bigG j)) = true then _ else _) = _
  rw [smG_c h]
  rfl
theorem opD_pow3 {i : Int} (h : i.natAbs < 2 ^ 4096) : opD .Pow (.int i) (.int 3) = some (.int (i ^ 3)) := by
  show (if 0 ≤ (3 : Int) ∧ (3 : Int) ≤ 100 ∧ bigG i = true then _ else _) = _
  rw [if_pos ⟨by decide, by decide, bigG_of h⟩]
  rfl
theorem opD_pow {i : Int} {n : Nat} (hn : n ≤ 100) (h : i.natAbs < 2 ^ 4096) : opD .Pow (.int i) (.int n) = some (.int (i ^ n)) := by
  show (if 0 ≤ (n : Int) ∧ (n : Int) ≤ 100 ∧ bigG i = true then _ else _) = _
  rw [if_pos ⟨by omega, by omega, bigG_of h⟩]
  rfl
theorem opD_mod {i j : Int} (h : 0 < j) : opD .Mod (.int i) (.int j) = some (.int (i % j)) := if_pos h
theorem opD_fdiv {i j : Int} (h : 0 < j) (h2 : j.natAbs < 2 ^ 4096) : opD .FloorDiv (.int i) (.int j) = some (.int (i / j)) := if_pos ⟨h, bigG_of h2⟩
theorem lt4096 {i : Int} {k : Nat} (h0 : 0 ≤ i) (h1 : i < 2 ^ k) (hk : k ≤ 4096) : i.natAbs < 2 ^ 4096 := by
  have : i.natAbs < 2 ^ k := by
    have e : ((i.natAbs : Int)) = i := Int.natAbs_of_nonneg h0
    have : (i.natAbs : Int) < ((2 ^ k : Nat) : Int) := by rw [e]; simpa using h1
    exact_mod_cast this
  exact Nat.lt_of_lt_of_le this (Nat.pow_le_pow_right (by decide) hk)
theorem draw_val {cal : Cal} {N : List Str} (hN : N.length = 4) {C : Nat} (hC : C < 2 ^ 60) {s : List D} {many : Int} (h : SrcOk C s) (hm : 0 < many) (hm2 : many.natAbs < 2 ^ 4096) :
    ∃ r s', runD cal N true drawC [.list s, .int many] = .ok (.int r) (some (.list s')) ∧ 0 ≤ r ∧ r < many ∧ SrcOk (C + 1) s' := by
  obtain ⟨a, b, c, rfl, ha, hb, hb2, hc, hc2⟩ := h
  have e0 : ini N true [.list [.int a, .int b, .int c], .int many] = [some (.list [.int a, .int b, .int c], true), some (.int many, false), none, none] := by
    unfold ini oldR nons
    rw [hN]
    rfl
  unfold runD
  rw [e0]
  by_cases hp : 0 < a
  · refine ⟨a % many, [.int (a / many), .int b, .int c], ?_, Int.emod_nonneg _ (by omega), Int.emod_lt_of_pos _ hm, ⟨_, _, _, rfl, Int.ediv_nonneg ha (by omega), hb, hb2, hc, by omega⟩⟩
    simp [drawC, evB, evS, evT, ev, evA, idxD, at3_0, cmpD, hp, truR, truD, Rs.st, Rs.bind, ofO, SR.seq, bltD, intD, opD_mod hm, opD_fdiv hm hm2, set0, ofS, ix3_0, lent]
  · have ha0 : ¬ (0 < a) := hp
    have k1 : (b + 2750159 * (c + 1)).natAbs < 2 ^ 4096 := lt4096 (k := 100) (by omega) (by omega) (by decide)
    have k2 := Int.emod_nonneg ((b + 2750159 * (c + 1)) ^ 3) (show (100000000000000000000000000000000000133 : Int) ≠ 0 by decide)
    have k3 := Int.emod_lt_of_pos ((b + 2750159 * (c + 1)) ^ 3) (show (0 : Int) < 100000000000000000000000000000000000133 by decide)
    have k4 : ((b + 2750159 * (c + 1)) ^ 3 % 100000000000000000000000000000000000133 + 7368787 * (c + 1)).natAbs < 2 ^ 4096 := lt4096 (k := 200) (by omega) (by omega) (by decide)
    have p1 : opD .Pow (.int 10) (.int 38) = some (.int 100000000000000000000000000000000000000) := opD_pow (n := 38) (by decide) (by decide +kernel)
    have p2 : opD .Pow (.int 10) (.int 41) = some (.int 100000000000000000000000000000000000000000) := opD_pow (n := 41) (by decide) (by decide +kernel)
    refine ⟨(((b + 2750159 * (c + 1)) ^ 3 % 100000000000000000000000000000000000133 + 7368787 * (c + 1)) ^ 3 % 100000000000000000000000000000000000000217) / 1000003 % many, [.int a, .int b, .int (c + 1)], ?_, Int.emod_nonneg _ (by omega), Int.emod_lt_of_pos _ hm, ⟨_, _, _, rfl, ha, hb, hb2, by omega, by push_cast; omega⟩⟩
    have o1 : ∀ i j : Int, opD .Add (.int i) (.int j) = some (.int (i + j)) := fun _ _ => rfl
    simp [drawC, evB, evS, evT, ev, evA, idxD, at3_0, at3_1, at3_2, cmpD, ha0, truR, truD, Rs.st, Rs.bind, ofO, SR.seq, bltD, intD, o1, opD_mul (show (2750159 : Int).natAbs < 2 ^ 64 by decide), opD_mul (show (7368787 : Int).natAbs < 2 ^ 64 by decide), opD_pow3 k1, opD_pow3 k4, p1, p2, opD_mod hm,
      opD_mod (show (0 : Int) < 100000000000000000000000000000000000133 by decide), opD_mod (show (0 : Int) < 100000000000000000000000000000000000000217 by decide), opD_fdiv (show (0 : Int) < 1000003 by decide) (show (1000003 : Int).natAbs < 2 ^ 4096 by decide +kernel), set0, ofS, ix3_2, lent]
end Ev

set_option Elab.async false
set_option linter.all false
set_option maxRecDepth 100000
set_option maxHeartbeats 4000000
namespace Ev
open PySem PySem.Spec PyProof.Rows L2
def sourceC : List CS := [.asg 2 (.ite (.cmp .Lt (.var 1) (.blt .len [(.var 0)])) (.idv 0 (.var 1)) (.cst (PyData.int 0))), .asg 3 (.ite (.cmp .GtE (.blt .abs [(.var 2)]) (.bin .Pow (.cst (PyData.int 10)) (.cst (PyData.int 18)))) (.bin .Sub (.blt .abs [(.var 2)]) (.bin .Pow (.cst (PyData.int 10)) (.cst (PyData.int 18)))) (.cst (PyData.int 0))), .retO (.lst [(.var 3), (.bin .Add (.bin .Mod (.blt .int [(.var 2)]) (.cst (PyData.int 2305843009213693951))) (.bin .Mult (.cst (PyData.int 1000003)) (.var 1))), (.cst (PyData.int 0))])]
theorem source_run {cal : Cal} {ds : List D} {p c : Int} (hp : 0 ≤ p) (hp2 : p ≤ 100) (h : (if p < (ds.length : Int) then atI ds p else some (.int 0)) = some (.int c)) :
    ∃ s, evB cal false sourceC [some (.list ds, false), some (.int p, false), none, none] = .ro s [some (.list ds, false), some (.int p, false), some (.int c, false), some (.int (if 10 ^ 18 ≤ (if c < 0 then -c else c) then (if c < 0 then -c else c) - 10 ^ 18 else 0), false)] ∧ SrcOk 0 s := by
  have k1 := Int.emod_nonneg c (show (2305843009213693951 : Int) ≠ 0 by decide)
  have k2 := Int.emod_lt_of_pos c (show (0 : Int) < 2305843009213693951 by decide)
  refine ⟨[.int (if 10 ^ 18 ≤ (if c < 0 then -c else c) then (if c < 0 then -c else c) - 10 ^ 18 else 0), .int (c % 2305843009213693951 + 1000003 * p), .int 0], ?_, ⟨_, _, _, rfl, ?_, by omega, by omega, by omega, by omega⟩⟩
  · have p1 : opD .Pow (.int 10) (.int 18) = some (.int 1000000000000000000) := opD_pow (n := 18) (by decide) (by decide +kernel)
    have o1 : ∀ i j : Int, opD .Add (.int i) (.int j) = some (.int (i + j)) := fun _ _ => rfl
    have o2 : ∀ i j : Int, opD .Sub (.int i) (.int j) = some (.int (i - j)) := fun _ _ => rfl
    have m1 := opD_mul (i := 1000003) (j := p) (show (1000003 : Int).natAbs < 2 ^ 64 by decide)
    have m2 := opD_mod (i := c) (show (0 : Int) < 2305843009213693951 by decide)
    by_cases hq : p < (ds.length : Int)
    · rw [if_pos hq] at h
      by_cases hz : (10 ^ 18 : Int) ≤ (if c < 0 then -c else c)
      · simp at hz
        simp [sourceC, evB, evS, evT, ev, evA, evOwn, idxD, h, cmpD, hq, hz, truR, truD, Rs.st, Rs.bind, ofO, SR.seq, bltD, intD, absD, lenD, p1, o1, o2, m1, m2, set0, ofS, lim]
      · simp at hz
        have hz' := Int.not_le.mpr hz
        simp [sourceC, evB, evS, evT, ev, evA, evOwn, idxD, h, cmpD, hq, hz', truR, truD, Rs.st, Rs.bind, ofO, SR.seq, bltD, intD, absD, lenD, p1, o1, o2, m1, m2, set0, ofS, lim]
    · rw [if_neg hq] at h
      cases h
      simp [sourceC, evB, evS, evT, ev, evA, evOwn, idxD, cmpD, hq, truR, truD, Rs.st, Rs.bind, ofO, SR.seq, bltD, intD, absD, lenD, p1, o1, o2, m1, m2, set0, ofS, lim]
  · split
    · omega
    · omega
theorem source_val {cal : Cal} {N : List Str} (hN : N.length = 4) (ns : List Int) {p : Nat} (hp : p ≤ 100) : ∃ s, runD cal N false sourceC [.list (ns.map .int), .int (p : Nat)] = .ow s none ∧ SrcOk 0 s := by
  have e0 : ini N false [.list (ns.map .int), .int (p : Nat)] = [some (.list (ns.map PyData.int), false), some (.int (p : Nat), false), none, none] := by
    unfold ini oldR nons
    rw [hN]
    rfl
  obtain ⟨c, hc⟩ : ∃ c, (if (p : Int) < ((ns.map PyData.int).length : Int) then atI (ns.map PyData.int) p else some (.int 0)) = some (.int c) := by
    by_cases hq : p < ns.length
    · refine ⟨ns[p], ?_⟩
      rw [if_pos (by rw [List.length_map]; omega)]
      unfold atI ixN
      rw [if_pos (by omega), if_pos (by rw [List.length_map]; omega)]
      simp [hq]
    · exact ⟨0, if_neg (by rw [List.length_map]; omega)⟩
  obtain ⟨s, h1, h2⟩ := source_run (cal := cal) (by omega) (by omega) hc
  refine ⟨s, ?_, h2⟩
  unfold runD
  rw [e0, h1]
  rfl
end Ev

set_option Elab.async false
set_option linter.all false
set_option maxRecDepth 100000
set_option maxHeartbeats 4000000
namespace Ev
set_option exponentiation.threshold 5000
open PySem PySem.Spec PyProof.Rows L2
/-! ## a def of a table, by its code -/
def Lk (tbl : List (Str × De)) (x : Str) (nN nps : Nat) (io : Bool) (c : List CS) : Prop := ∃ e, tbl.lookup x = some e ∧ e.N.length = nN ∧ e.fi.ps.length = nps ∧ e.fi.io = io ∧ e.cs = c
def outR : SR → CR
  | .nx _ => .ok .none none
  | .rt d _ => .ok d none
  | .ro ds _ => .ow ds none
  | .er c f _ => .er c f none
  | _ => .bad
theorem lk_run {tbl : List (Str × De)} {x : Str} {nN nps : Nat} {c : List CS} {n : Nat} {ds : List D} (h : Lk tbl x nN nps false c) (hl : ds.length = nps) :
    calN tbl (n + 1) x ds = outR (evB (calN tbl n) false c (oldR ds ++ nons (nN - ds.length))) := by
  obtain ⟨e, h1, h2, h3, h4, h5⟩ := h
  show (match tbl.lookup x with | some e => if ds.length = e.fi.ps.length then runD (calN tbl n) e.N e.fi.io e.cs ds else .bad | none => CR.bad) = _
  rw [h1]
  simp only
  rw [if_pos (by rw [h3, hl]), h4, h5]
  unfold runD ini
  rw [h2]
  generalize evB (calN tbl n) false c (oldR ds ++ nons (nN - ds.length)) = r
  cases r <;> rfl
theorem lk_runD {tbl : List (Str × De)} {x : Str} {nN nps : Nat} {io : Bool} {c : List CS} {n : Nat} {ds : List D} (h : Lk tbl x nN nps io c) (hl : ds.length = nps) : ∃ N : List Str, N.length = nN ∧ calN tbl (n + 1) x ds = runD (calN tbl n) N io c ds := by
  obtain ⟨e, h1, h2, h3, h4, h5⟩ := h
  refine ⟨e.N, h2, ?_⟩
  show (match tbl.lookup x with | some e => if ds.length = e.fi.ps.length then runD (calN tbl n) e.N e.fi.io e.cs ds else .bad | none => CR.bad) = _
  rw [h1]
  simp only
  rw [if_pos (by rw [h3, hl]), h4, h5]
/-- a def whose first argument is lent -/
def outL : SR → CR
  | .nx ρ => lent true ρ (.ok .none)
  | .rt d ρ => lent true ρ (.ok d)
  | .ro ds ρ => lent true ρ (.ow ds)
  | .er c f ρ => lent true ρ (.er c f)
  | _ => .bad
theorem lk_runL {tbl : List (Str × De)} {x : Str} {nN nps : Nat} {c : List CS} {n : Nat} {d : D} {ds : List D} (h : Lk tbl x nN nps true c) (hl : ds.length + 1 = nps) :
    calN tbl (n + 1) x (d :: ds) = outL (evB (calN tbl n) true c (some (d, true) :: (oldR ds ++ nons (nN - (ds.length + 1))))) := by
  obtain ⟨e, h1, h2, h3, h4, h5⟩ := h
  show (match tbl.lookup x with | some e => if (d :: ds).length = e.fi.ps.length then runD (calN tbl n) e.N e.fi.io e.cs (d :: ds) else .bad | none => CR.bad) = _
  rw [h1]
  simp only
  rw [if_pos (by rw [h3, ← hl]; rfl), h4, h5]
  unfold runD ini
  rw [h2]
  show (match evB (calN tbl n) true c (some (d, true) :: (oldR ds ++ nons (nN - (ds.length + 1)))) with
    | .nx ρ => lent true ρ (.ok .none) | .rt d ρ => lent true ρ (.ok d) | .ro ds ρ => lent true ρ (.ow ds) | .er c f ρ => lent true ρ (.er c f) | _ => CR.bad) = _
  generalize evB (calN tbl n) true c (some (d, true) :: (oldR ds ++ nons (nN - (ds.length + 1)))) = r
  cases r <;> rfl
/-! words about ints -/
theorem o_add (i j : Int) : opD .Add (.int i) (.int j) = some (.int (i + j)) := rfl
theorem o_sub (i j : Int) : opD .Sub (.int i) (.int j) = some (.int (i - j)) := rfl
theorem o_mul (i j : Int) : opD .Mult (.int i) (.int j) = if (smG i || smG j || (bigG i && bigG j)) = true then some (.int (i * j)) else none := rfl
theorem c_lt (i j : Int) : cmpD .Lt (.int i) (.int j) = some (decide (i < j)) := rfl
theorem c_le (i j : Int) : cmpD .LtE (.int i) (.int j) = some (decide (i ≤ j)) := rfl
theorem c_gt (i j : Int) : cmpD .Gt (.int i) (.int j) = some (decide (j < i)) := rfl
theorem c_ge (i j : Int) : cmpD .GtE (.int i) (.int j) = some (decide (j ≤ i)) := rfl
theorem eqv_int (i j : Int) : PyData.eqv (.int i) (.int j) = decide (i = j) := by
  simp only [PyData.eqv]
  rw [Bool.eq_iff_iff]
  simp
theorem c_eq (i j : Int) : cmpD .Eq (.int i) (.int j) = some (decide (i = j)) := by
  show eqD (.int i) (.int j) = _
  unfold eqD
  rw [if_pos (by rfl), eqv_int]
theorem c_ne (i j : Int) : cmpD .NotEq (.int i) (.int j) = some (!decide (i = j)) := by
  show (eqD (.int i) (.int j)).map (!·) = _
  unfold eqD
  rw [if_pos (by rfl), eqv_int]
  rfl
theorem big2 {i j : Int} (h1 : bigG i = true) (h2 : bigG j = true) : (smG i || smG j || (bigG i && bigG j)) = true := by rw [h1, h2]; simp
/-- an int of at most k bits -/
def Bd (k : Nat) (i : Int) : Prop := i.natAbs < 2 ^ k
theorem Bd.big {k : Nat} {i : Int} (h : Bd k i) (hk : k ≤ 4096) : bigG i = true := decide_eq_true (Nat.lt_of_lt_of_le h (Nat.pow_le_pow_right (by decide) hk))
theorem Bd.up {k m : Nat} {i : Int} (h : Bd k i) (hk : k ≤ m) : Bd m i := Nat.lt_of_lt_of_le h (Nat.pow_le_pow_right (by decide) hk)
theorem Bd.mul {k m : Nat} {i j : Int} (h : Bd k i) (g : Bd m j) : Bd (k + m) (i * j) := by
  unfold Bd at *
  rw [Int.natAbs_mul, Nat.pow_add]
  exact Nat.mul_lt_mul_of_lt_of_lt h g
theorem Bd.add {k m : Nat} {i j : Int} (h : Bd k i) (g : Bd m j) : Bd (max k m + 1) (i + j) := by
  have h' := h.up (Nat.le_max_left k m)
  have g' := g.up (Nat.le_max_right k m)
  unfold Bd at *
  rw [Nat.pow_succ]
  have := Int.natAbs_add_le i j
  omega
theorem Bd.neg {k : Nat} {i : Int} (h : Bd k i) : Bd k (-i) := by
  unfold Bd at *
  rwa [Int.natAbs_neg]
theorem Bd.sub {k m : Nat} {i j : Int} (h : Bd k i) (g : Bd m j) : Bd (max k m + 1) (i - j) := by
  rw [Int.sub_eq_add_neg]
  exact h.add g.neg
theorem Bd.of {k : Nat} {i : Int} (h0 : -(2 ^ k : Nat) < i) (h1 : i < (2 ^ k : Nat)) : Bd k i := by
  unfold Bd
  omega
theorem Bd.between {k : Nat} {i j : Int} (h : Bd k j) (h0 : 0 ≤ i) (h1 : i ≤ j) : Bd k i := by
  unfold Bd at *
  omega
end Ev

set_option Elab.async false
set_option linter.all false
set_option maxRecDepth 100000
set_option maxHeartbeats 4000000
namespace Ev
set_option exponentiation.threshold 5000
open PySem PySem.Spec PyProof.Rows L2
def c_is_integer : List CS := [.ret (.and (.isi (.var 0) "int") (.not (.isi (.var 0) "bool")))]
def c_is_from : List CS := [.ret (.and (.isi (.var 0) "int") (.and (.not (.isi (.var 0) "bool")) (.cmp .GtE (.var 0) (.var 1))))]
def c_is_within : List CS := [.ret (.and (.isi (.var 0) "int") (.and (.not (.isi (.var 0) "bool")) (.chn .LtE .LtE (.var 1) (.var 0) (.var 2))))]
def c_check_tick : List CS := [.iff (.not (.call "is_integer" [0] [(.var 0)])) [.nev] []]
def c_check_number_from : List CS := [.iff (.not (.call "is_from" [0, 1] [(.var 0), (.var 1)])) [.nev] []]
def c_check_display : List CS := [.iff (.or (.not (.isi (.var 0) "tuple")) (.cmp .NotEq (.blt .len [(.var 0)]) (.cst (PyData.int 4)))) [.nev] [], .unp [1, 2, 3, 4] (.var 0), .iff (.not (.call "is_within" [0, 1, 2] [(.var 1), (.cst (PyData.int 1)), (.gcn "MOST_PLACES" (PyData.int 8))])) [.nev] [], .iff (.not (.call "is_from" [0, 1] [(.var 2), (.cst (PyData.int 1))])) [.nev] [], .iff (.not (.call "is_within" [0, 1, 2] [(.var 3), (.cst (PyData.int 1)), (.var 2)])) [.nev] [], .iff (.or (.not (.isi (.var 4) "str")) (.cmp .NotIn (.var 4) (.tup [(.gcn "NOW" (PyData.str "now")), (.gcn "ROUND" (PyData.str "round"))]))) [.nev] []]
def c_is_place : List CS := [.ret (.call "is_within" [0, 1, 2] [(.var 1), (.cst (PyData.int 0)), (.bin .Sub (.idv 0 (.cst (PyData.int 0))) (.cst (PyData.int 1)))])]
def c_check_place : List CS := [.iff (.not (.call "is_place" [0, 1] [(.var 0), (.var 1)])) [.nev] []]
def c_is_lit : List CS := [.exp (.call "check_display" [0] [(.var 0)]), .exp (.call "check_place" [0, 1] [(.var 0), (.var 1)]), .exp (.call "check_tick" [0] [(.var 2)]), .unp [3, 4, 5, 6] (.var 0), .ret (.cmp .Lt (.bin .Mod (.bin .Sub (.var 2) (.bin .Mult (.var 1) (.var 4))) (.bin .Mult (.var 3) (.var 4))) (.var 5))]
def c_lit_ahead : List CS := [.unp [3, 4, 5, 6] (.var 0), .unp [7, 8] (.blt .divmod [(.bin .Sub (.var 2) (.bin .Mult (.var 1) (.var 4))), (.bin .Mult (.var 3) (.var 4))]), .ret (.bin .Add (.bin .Mult (.var 7) (.var 5)) (.blt .min [(.var 8), (.var 5)]))]
def c_lit_between : List CS := [.ret (.bin .Sub (.call "lit_ahead" [0, 1, 2] [(.var 0), (.var 1), (.var 3)]) (.call "lit_ahead" [0, 1, 2] [(.var 0), (.var 1), (.var 2)]))]
def c_lit_tick : List CS := [.unp [3, 4, 5, 6] (.var 0), .unp [7, 8] (.blt .divmod [(.var 2), (.var 5)]), .ret (.bin .Add (.bin .Mult (.bin .Add (.bin .Mult (.var 7) (.var 3)) (.var 1)) (.var 4)) (.var 8))]
def c_lit_ticks : List CS := [.exp (.call "check_display" [0] [(.var 0)]), .exp (.call "check_place" [0, 1] [(.var 0), (.var 1)]), .exp (.call "check_tick" [0] [(.var 2)]), .exp (.call "check_tick" [0] [(.var 3)]), .ret (.ite (.cmp .Lt (.var 2) (.var 3)) (.call "lit_between" [0, 1, 2, 3] [(.var 0), (.var 1), (.var 2), (.var 3)]) (.cst (PyData.int 0)))]
def c_nth_lit : List CS := [.exp (.call "check_display" [0] [(.var 0)]), .exp (.call "check_place" [0, 1] [(.var 0), (.var 1)]), .exp (.call "check_tick" [0] [(.var 2)]), .exp (.call "check_number_from" [0, 1] [(.var 3), (.cst (PyData.int 0))]), .ret (.call "lit_tick" [0, 1, 2] [(.var 0), (.var 1), (.bin .Add (.call "lit_ahead" [0, 1, 2] [(.var 0), (.var 1), (.var 2)]) (.var 3))])]
theorem isi_ii (v : Int) : isiD (.int v) "int" = some true := by kernel_rfl
theorem isi_ib (v : Int) : isiD (.int v) "bool" = some false := by kernel_rfl
theorem isi_tt (v : List D) : isiD (.tuple v) "tuple" = some true := by kernel_rfl
theorem isi_ss (v : Str) : isiD (.str v) "str" = some true := by kernel_rfl
section
variable {tbl : List (Str × De)} {n : Nat}
theorem is_integer_val (h : Lk tbl "is_integer" 1 1 false c_is_integer) (v : Int) : calN tbl (n + 1) "is_integer" [.int v] = .ok (.bool true) none := by
  rw [lk_run h rfl]
  simp [c_is_integer, evB, evS, evT, ev, evA, evO, evC, Rs.st, Rs.bind, ofO, SR.seq, set0, ofS, setTg, setMany, truR, truD, callR, permD, outR, oldR, nons, List.replicate, lim, isi_ii, isi_ib]
theorem is_from_val (h : Lk tbl "is_from" 2 2 false c_is_from) (v a : Int) : calN tbl (n + 1) "is_from" [.int v, .int a] = .ok (.bool (decide (a ≤ v))) none := by
  rw [lk_run h rfl]
  simp [c_is_from, evB, evS, evT, ev, evA, evO, evC, Rs.st, Rs.bind, ofO, SR.seq, set0, ofS, setTg, setMany, truR, truD, callR, permD, outR, oldR, nons, List.replicate, lim, isi_ii, isi_ib, c_ge]
theorem is_within_val (h : Lk tbl "is_within" 3 3 false c_is_within) (v a b : Int) : calN tbl (n + 1) "is_within" [.int v, .int a, .int b] = .ok (.bool (decide (a ≤ v ∧ v ≤ b))) none := by
  rw [lk_run h rfl]
  by_cases q : a ≤ v
  · simp [c_is_within, evB, evS, evT, ev, evA, evO, evC, Rs.st, Rs.bind, ofO, SR.seq, set0, ofS, setTg, setMany, truR, truD, callR, permD, outR, oldR, nons, List.replicate, lim, isi_ii, isi_ib, c_le, q]
  · have q' : v < a := Int.not_le.mp q
    simp [c_is_within, evB, evS, evT, ev, evA, evO, evC, Rs.st, Rs.bind, ofO, SR.seq, set0, ofS, setTg, setMany, truR, truD, callR, permD, outR, oldR, nons, List.replicate, lim, isi_ii, isi_ib, c_le, q, q']
theorem check_tick_val (h1 : Lk tbl "is_integer" 1 1 false c_is_integer) (h : Lk tbl "check_tick" 1 1 false c_check_tick) (v : Int) : calN tbl (n + 2) "check_tick" [.int v] = .ok .none none := by
  rw [lk_run h rfl]
  have e := is_integer_val (n := n) h1 v
  simp [c_check_tick, evB, evS, evT, ev, evA, evO, evC, Rs.st, Rs.bind, ofO, SR.seq, set0, ofS, setTg, setMany, truR, truD, callR, permD, outR, oldR, nons, List.replicate, lim, e]
theorem check_number_from_val (h2 : Lk tbl "is_from" 2 2 false c_is_from) (h : Lk tbl "check_number_from" 2 2 false c_check_number_from) {v a : Int} (q : a ≤ v) : calN tbl (n + 2) "check_number_from" [.int v, .int a] = .ok .none none := by
  rw [lk_run h rfl]
  have e := is_from_val (n := n) h2 v a
  simp [c_check_number_from, evB, evS, evT, ev, evA, evO, evC, Rs.st, Rs.bind, ofO, SR.seq, set0, ofS, setTg, setMany, truR, truD, callR, permD, outR, oldR, nons, List.replicate, lim, e, q]
end
end Ev
namespace Ev
set_option exponentiation.threshold 5000
open PySem PySem.Spec PyProof.Rows L2
theorem Bd.div {k : Nat} {i j : Int} (h : Bd k i) (hj : 0 < j) : Bd k (i / j) := by
  unfold Bd at *
  by_cases hi : 0 ≤ i
  · have h1 := Int.ediv_nonneg hi (show 0 ≤ j by omega)
    have h2 := Int.ediv_le_self j hi
    omega
  · have h1 : i ≤ i / j := by
      refine Int.le_ediv_of_mul_le hj ?_
      have := Int.mul_le_mul_of_nonpos_left (a := i) (b := j) (c := 1) (by omega) (by omega)
      omega
    have h2 : i / j < 0 := Int.ediv_neg_of_neg_of_pos (by omega) hj
    omega
theorem Bd.mod {k : Nat} {i j : Int} (h : Bd k j) (hj : 0 < j) : Bd k (i % j) := by
  have h1 := Int.emod_nonneg i (show j ≠ 0 by omega)
  have h2 := Int.emod_lt_of_pos i hj
  unfold Bd at *
  omega
instance {k : Nat} {i : Int} : Decidable (Bd k i) := inferInstanceAs (Decidable (i.natAbs < 2 ^ k))
theorem smG_le8 {i : Int} (h0 : 0 ≤ i) (h1 : i ≤ 8) : smG i = true := decide_eq_true (by omega)
def dsp (P S L : Int) (d : Str) : D := .tuple [.int P, .int S, .int L, .str d]
structure Val (P S L : Int) (d : Str) : Prop where
  p1 : 1 ≤ P
  p8 : P ≤ 8
  s1 : 1 ≤ S
  l1 : 1 ≤ L
  l2 : L ≤ S
  dd : d = ("now" : Str) ∨ d = ("round" : Str)
  sb : Bd 300 S
section
variable {P S L : Int} {d : Str}
theorem Val.sR (v : Val P S L d) : S ≤ P * S ∧ 0 < P * S := Lit.SR (by have := v.p1; omega) (by have := v.s1; omega)
theorem Val.lR (v : Val P S L d) : L ≤ P * S := by have := v.sR; have := v.l2; omega
theorem Val.pb (v : Val P S L d) : Bd 4 P := by have := v.p1; have := v.p8; unfold Bd; omega
theorem Val.lb (v : Val P S L d) : Bd 300 L := v.sb.between (by have := v.l1; omega) v.l2
theorem Val.rb (v : Val P S L d) : Bd 304 (P * S) := (v.pb.mul v.sb).up (by decide)
variable {tbl : List (Str × De)} {n : Nat}
/-- what the table holds of the ints' file and of displays' checks -/
structure Dsp0 (tbl : List (Str × De)) : Prop where
  i1 : Lk tbl "is_integer" 1 1 false c_is_integer
  i2 : Lk tbl "is_from" 2 2 false c_is_from
  i3 : Lk tbl "is_within" 3 3 false c_is_within
  i4 : Lk tbl "check_tick" 1 1 false c_check_tick
  d1 : Lk tbl "check_display" 5 1 false c_check_display
  d2 : Lk tbl "is_place" 2 2 false c_is_place
  d3 : Lk tbl "check_place" 2 2 false c_check_place
theorem notin_drv (h : d = ("now" : Str) ∨ d = ("round" : Str)) : cmpD .NotIn (.str d) (.tuple [.str "now", .str "round"]) = some false := by
  rcases h with rfl | rfl <;> kernel_rfl
theorem len_dsp : bltD .len [dsp P S L d] = some (.int 4) := rfl
theorem check_display_val (T : Dsp0 tbl) (v : Val P S L d) : calN tbl (n + 3) "check_display" [dsp P S L d] = .ok .none none := by
  rw [lk_run T.d1 rfl]
  have e1 := is_within_val (n := n + 1) T.i3 P 1 8
  have e2 := is_from_val (n := n + 1) T.i2 S 1
  have e3 := is_within_val (n := n + 1) T.i3 L 1 S
  have h1 := v.p1
  have h2 := v.p8
  have h3 := v.s1
  have h4 := v.l1
  have h5 := v.l2
  have e4 := notin_drv v.dd
  have e5 := @len_dsp P S L d
  unfold dsp at e5 ⊢
  simp [c_check_display, evB, evS, evT, ev, evA, evO, evC, Rs.st, Rs.bind, ofO, SR.seq, set0, ofS, setTg, setMany, truR, truD, callR, permD, outR, oldR, nons, List.replicate, lim, isi_tt, isi_ss, e1, e2, e3, e4, e5, h1, h2, h3, h4, h5, c_ne, lim]
theorem idx_p : idxD (dsp P S L d) (.int 0) = some (.int P) := rfl
theorem idx_s : idxD (dsp P S L d) (.int 1) = some (.int S) := rfl
theorem idx_l : idxD (dsp P S L d) (.int 2) = some (.int L) := rfl
theorem idx_d : idxD (dsp P S L d) (.int 3) = some (.str d) := rfl
theorem is_place_val (T : Dsp0 tbl) (j : Int) : calN tbl (n + 3) "is_place" [dsp P S L d, .int j] = .ok (.bool (decide (0 ≤ j ∧ j ≤ P - 1))) none := by
  rw [lk_run T.d2 rfl]
  have e1 := is_within_val (n := n + 1) T.i3 j 0 (P - 1)
  simp [c_is_place, evB, evS, evT, ev, evA, evO, evC, Rs.st, Rs.bind, ofO, SR.seq, set0, ofS, setTg, setMany, truR, truD, callR, permD, outR, oldR, nons, List.replicate, lim, idx_p, o_sub, e1]
theorem check_place_val (T : Dsp0 tbl) {j : Int} (h0 : 0 ≤ j) (h1 : j < P) : calN tbl (n + 4) "check_place" [dsp P S L d, .int j] = .ok .none none := by
  rw [lk_run T.d3 rfl]
  have e1 := is_place_val (n := n) (S := S) (L := L) (d := d) T (P := P) j
  have h2 : j ≤ P - 1 := by omega
  simp [c_check_place, evB, evS, evT, ev, evA, evO, evC, Rs.st, Rs.bind, ofO, SR.seq, set0, ofS, setTg, setMany, truR, truD, callR, permD, outR, oldR, nons, List.replicate, lim, e1, h0, h2]
def ahd (P S L j t : Int) : Int := Lit.cnt (P * S) L (t - j * S)
theorem mul_sm {i j : Int} (h : smG i = true) : opD .Mult (.int i) (.int j) = some (.int (i * j)) := by rw [o_mul, h]; simp
theorem mul_big {i j : Int} (h : bigG i = true) (h2 : bigG j = true) : opD .Mult (.int i) (.int j) = some (.int (i * j)) := by rw [o_mul, if_pos (big2 h h2)]
theorem divmod_val {i j : Int} (h : 0 < j) (h2 : bigG j = true) : bltD .divmod [.int i, .int j] = some (.tuple [.int (i / j), .int (i % j)]) := if_pos ⟨h, h2⟩
theorem min_val (i j : Int) : bltD .min [.int i, .int j] = some (.int (if j < i then j else i)) := rfl
theorem max_val (i j : Int) : bltD .max [.int i, .int j] = some (.int (if j > i then j else i)) := rfl
theorem int_val (i : Int) : bltD .int [.int i] = some (.int i) := rfl
theorem is_lit_val (T : Dsp0 tbl) (h : Lk tbl "is_lit" 7 3 false c_is_lit) (v : Val P S L d) {j : Int} (h0 : 0 ≤ j) (h1 : j < P) (t : Int) : calN tbl (n + 5) "is_lit" [dsp P S L d, .int j, .int t] = .ok (.bool (decide ((t - j * S) % (P * S) < L))) none := by
  rw [lk_run h rfl]
  have e1 := check_display_val (n := n + 1) T v
  have e2 := check_place_val (n := n) (S := S) (L := L) (d := d) T h0 h1
  have e3 := check_tick_val (n := n + 2) T.i1 T.i4 t
  have m1 := mul_sm (j := S) (smG_le8 h0 (by have := v.p8; omega))
  have m2 := mul_sm (j := S) (smG_le8 (i := P) (by have := v.p1; omega) v.p8)
  have m3 := opD_mod (i := t - j * S) v.sR.2
  unfold dsp at e1 e2 ⊢
  simp [c_is_lit, evB, evS, evT, ev, evA, evO, evC, Rs.st, Rs.bind, ofO, SR.seq, set0, ofS, setTg, setMany, truR, truD, callR, permD, outR, oldR, nons, List.replicate, lim, e1, e2, e3, o_sub, m1, m2, m3, c_lt]
theorem lit_ahead_val (h : Lk tbl "lit_ahead" 9 3 false c_lit_ahead) (v : Val P S L d) {j : Int} (h0 : 0 ≤ j) (h1 : j < P) {t : Int} (ht : Bd 1000 t) : calN tbl (n + 1) "lit_ahead" [dsp P S L d, .int j, .int t] = .ok (.int (ahd P S L j t)) none := by
  rw [lk_run h rfl]
  have m1 := mul_sm (j := S) (smG_le8 h0 (by have := v.p8; omega))
  have m2 := mul_sm (j := S) (smG_le8 (i := P) (by have := v.p1; omega) v.p8)
  have bj : Bd 4 j := by have := v.p8; unfold Bd; omega
  have bt : Bd 1001 (t - j * S) := ht.sub ((bj.mul v.sb).up (m := 1000) (by decide))
  have m3 := divmod_val (i := t - j * S) v.sR.2 (v.rb.big (by decide))
  have m4 := mul_big (i := (t - j * S) / (P * S)) (j := L) ((bt.div v.sR.2).big (by decide)) (v.lb.big (by decide))
  unfold dsp
  simp [c_lit_ahead, evB, evS, evT, ev, evA, evO, evC, Rs.st, Rs.bind, ofO, SR.seq, set0, ofS, setTg, setMany, truR, truD, callR, permD, outR, oldR, nons, List.replicate, lim, o_sub, o_add, m1, m2, m3, m4, min_val]
  rfl
theorem lit_between_val (h : Lk tbl "lit_ahead" 9 3 false c_lit_ahead) (h' : Lk tbl "lit_between" 4 4 false c_lit_between) (v : Val P S L d) {j : Int} (h0 : 0 ≤ j) (h1 : j < P) {a b : Int} (ha : Bd 1000 a) (hb : Bd 1000 b) :
    calN tbl (n + 2) "lit_between" [dsp P S L d, .int j, .int a, .int b] = .ok (.int (ahd P S L j b - ahd P S L j a)) none := by
  rw [lk_run h' rfl]
  have e1 := lit_ahead_val (n := n) h v h0 h1 ha
  have e2 := lit_ahead_val (n := n) h v h0 h1 hb
  simp [c_lit_between, evB, evS, evT, ev, evA, evO, evC, Rs.st, Rs.bind, ofO, SR.seq, set0, ofS, setTg, setMany, truR, truD, callR, permD, outR, oldR, nons, List.replicate, lim, e1, e2, o_sub]
/-- the lit ticks of a window -/
def win (P S L j a b : Int) : Int := if a < b then ahd P S L j b - ahd P S L j a else 0
theorem lit_ticks_val (T : Dsp0 tbl) (h1 : Lk tbl "lit_ahead" 9 3 false c_lit_ahead) (h2 : Lk tbl "lit_between" 4 4 false c_lit_between) (h : Lk tbl "lit_ticks" 4 4 false c_lit_ticks) (v : Val P S L d) {j : Int} (h0 : 0 ≤ j) (h1' : j < P) {a b : Int} (ha : Bd 1000 a) (hb : Bd 1000 b) :
    calN tbl (n + 5) "lit_ticks" [dsp P S L d, .int j, .int a, .int b] = .ok (.int (win P S L j a b)) none := by
  rw [lk_run h rfl]
  have e1 := check_display_val (n := n + 1) T v
  have e2 := check_place_val (n := n) (S := S) (L := L) (d := d) T h0 h1'
  have e3 := check_tick_val (n := n + 2) T.i1 T.i4 a
  have e4 := check_tick_val (n := n + 2) T.i1 T.i4 b
  have e5 := lit_between_val (n := n + 2) h1 h2 v h0 h1' ha hb
  unfold win
  by_cases q : a < b
  · simp [c_lit_ticks, evB, evS, evT, ev, evA, evO, evC, Rs.st, Rs.bind, ofO, SR.seq, set0, ofS, setTg, setMany, truR, truD, callR, permD, outR, oldR, nons, List.replicate, lim, e1, e2, e3, e4, e5, c_lt, q]
  · simp [c_lit_ticks, evB, evS, evT, ev, evA, evO, evC, Rs.st, Rs.bind, ofO, SR.seq, set0, ofS, setTg, setMany, truR, truD, callR, permD, outR, oldR, nons, List.replicate, lim, e1, e2, e3, e4, e5, c_lt, q]
/-- the lit tick with so many ahead of it -/
def ntk (P S L j A : Int) : Int := (A / L * P + j) * S + A % L
theorem ntk_eq : ntk P S L j A - j * S = Lit.nthU (P * S) L A := by
  unfold ntk Lit.nthU
  rw [Int.add_mul, Int.mul_assoc]
  omega
theorem lit_tick_val (h : Lk tbl "lit_tick" 9 3 false c_lit_tick) (v : Val P S L d) {j : Int} (h0 : 0 ≤ j) (h1 : j < P) {A : Int} (hA : Bd 2000 A) : calN tbl (n + 1) "lit_tick" [dsp P S L d, .int j, .int A] = .ok (.int (ntk P S L j A)) none := by
  rw [lk_run h rfl]
  have bj : Bd 4 j := by have := v.p8; unfold Bd; omega
  have l0 : 0 < L := by have := v.l1; omega
  have m1 := divmod_val (i := A) l0 (v.lb.big (by decide))
  have b1 := hA.div l0
  have m2 := mul_big (i := A / L) (j := P) (b1.big (by decide)) (v.pb.big (by decide))
  have m3 := mul_big (i := A / L * P + j) (j := S) (((b1.mul v.pb).add bj).big (by decide)) (v.sb.big (by decide))
  unfold dsp
  simp [c_lit_tick, evB, evS, evT, ev, evA, evO, evC, Rs.st, Rs.bind, ofO, SR.seq, set0, ofS, setTg, setMany, truR, truD, callR, permD, outR, oldR, nons, List.replicate, lim, o_add, m1, m2, m3]
  rfl
theorem ahd_bd (v : Val P S L d) {j : Int} (h0 : 0 ≤ j) (h1 : j < P) {t : Int} (ht : Bd 1000 t) : Bd 1400 (ahd P S L j t) := by
  have bj : Bd 4 j := by have := v.p8; unfold Bd; omega
  have bt : Bd 1001 (t - j * S) := ht.sub ((bj.mul v.sb).up (m := 1000) (by decide))
  unfold ahd Lit.cnt
  have b1 := (bt.div v.sR.2).mul v.lb
  have b2 : Bd 304 (if L < (t - j * S) % (P * S) then L else (t - j * S) % (P * S)) := by
    split
    · exact v.lb.up (by decide)
    · exact v.rb.mod v.sR.2
  exact (b1.add b2).up (by decide)
theorem nth_lit_val (T : Dsp0 tbl) (h2 : Lk tbl "check_number_from" 2 2 false c_check_number_from) (h3 : Lk tbl "lit_ahead" 9 3 false c_lit_ahead) (h4 : Lk tbl "lit_tick" 9 3 false c_lit_tick) (h : Lk tbl "nth_lit" 4 4 false c_nth_lit) (v : Val P S L d) {j : Int} (h0 : 0 ≤ j) (h1 : j < P)
    {t i : Int} (ht : Bd 1000 t) (i0 : 0 ≤ i) (hi : Bd 1000 i) : calN tbl (n + 5) "nth_lit" [dsp P S L d, .int j, .int t, .int i] = .ok (.int (ntk P S L j (ahd P S L j t + i))) none := by
  rw [lk_run h rfl]
  have e1 := check_display_val (n := n + 1) T v
  have e2 := check_place_val (n := n) (S := S) (L := L) (d := d) T h0 h1
  have e3 := check_tick_val (n := n + 2) T.i1 T.i4 t
  have e4 := check_number_from_val (n := n + 1 + 1) T.i2 h2 i0
  have e5 := lit_ahead_val (n := n + 3) h3 v h0 h1 ht
  have e6 := lit_tick_val (n := n + 3) h4 v h0 h1 (A := ahd P S L j t + i) (((ahd_bd v h0 h1 ht).add hi).up (by decide))
  simp [c_nth_lit, evB, evS, evT, ev, evA, evO, evC, Rs.st, Rs.bind, ofO, SR.seq, set0, ofS, setTg, setMany, truR, truD, callR, permD, outR, oldR, nons, List.replicate, lim, e1, e2, e3, e4, e5, e6, o_add]
end
end Ev

set_option Elab.async false
set_option linter.all false
set_option maxRecDepth 100000
set_option maxHeartbeats 4000000
namespace Ev
set_option exponentiation.threshold 5000
open PySem PySem.Spec PyProof.Rows L2
/-! ## what is shown, what is equal -/
theorem tfr_len : ∀ (ts : List Str) (k : Nat) (acc : Str), (textFrom k acc ts).length ≤ acc.length + (ts.map fun t => t.length + 2).sum
  | [], k, acc => by show acc.length ≤ _; omega
  | t :: r, k, acc => by
    have h := tfr_len r (k + 1) (acc ++ (if k > 0 then ", " else "" : String) ++ t)
    have e : (acc ++ (if k > 0 then ", " else "" : String) ++ t).length ≤ acc.length + 2 + t.length := by
      rw [Str.length_append, Str.length_append]
      by_cases hk : k > 0
      · rw [if_pos hk]
        show acc.length + 2 + t.length ≤ _
        omega
      · rw [if_neg hk]
        show acc.length + 0 + t.length ≤ _
        omega
    show (textFrom (k + 1) (acc ++ (if k > 0 then ", " else "" : String) ++ t) r).length ≤ _
    rw [List.map_cons, List.sum_cons]
    omega
theorem ltx_len (ts : List Str) : (listText ts).length ≤ (ts.map fun t => t.length + 2).sum + 2 := by
  unfold listText
  rw [Str.length_append]
  have h := tfr_len ts 0 "["
  have e : ("[" : Str).length = 1 := rfl
  have e2 : ("]" : Str).length = 1 := rfl
  omega
theorem piled_le : ∀ ts : List Str, piled ts ≤ (ts.map fun t => t.length + 2).sum
  | [] => Nat.zero_le _
  | t :: r => by
    simp [piled]
theorem ttx_len (ts : List Str) : (tupleText ts).length ≤ (ts.map fun t => t.length + 2).sum + 3 := by
  unfold tupleText
  rw [Str.length_append, Str.length_append]
  have e : ("(" : Str).length = 1 := rfl
  have e2 : ((if ts.length == 1 then ",)" else ")" : String) : Str).length ≤ 2 := by split <;> decide
  cases ts with
  | nil =>
    have e3 : (Str.join ", " []).length = 0 := rfl
    omega
  | cons t r =>
    have h := join_length_add (t :: r) (by simp)
    have h2 := piled_le (t :: r)
    omega
mutual
def wD : D → Nat
  | .none => 4
  | .bool _ => 5
  | .int i => i.natAbs.log2 + 3
  | .str x => (reprText x).length
  | .list xs => wDs xs + 2
  | .tuple xs => wDs xs + 3
  | .dict _ => 0
def wDs : List D → Nat
  | [] => 0
  | x :: xs => wD x + 2 + wDs xs
end
theorem sum_wDs : ∀ (xs : List D), (∀ x ∈ xs, x.shown.length ≤ wD x) → ((PyData.shownAll xs).map fun t => t.length + 2).sum ≤ wDs xs
  | [], _ => Nat.le_refl _
  | x :: xs, h => by
    have h1 := h x List.mem_cons_self
    have h2 := sum_wDs xs fun y hy => h y (List.mem_cons_of_mem _ hy)
    show (x.shown.length + 2) + _ ≤ wD x + 2 + wDs xs
    exact Nat.add_le_add (by omega) h2
mutual
theorem shown_le : ∀ d : D, d.hasDict = false → d.shown.length ≤ wD d
  | .none, _ => by simp only [PyData.shown, wD]; decide
  | .bool b, _ => by cases b <;> (simp only [PyData.shown, wD]; decide)
  | .int i, _ => by
    simp only [PyData.shown, wD]
    have h := PySem.int_text_length_le (a := i) (k := i.natAbs.log2 + 1) (by omega) (by omega)
    have e : (Str.ofString (toString i)).length = (toString i).length := PySem.ofString_length _
    omega
  | .str x, _ => by simp only [PyData.shown, wD]; exact Nat.le_refl _
  | .list xs, h => by
    simp only [PyData.shown, wD]
    have := ltx_len (PyData.shownAll xs)
    have := shown_les xs (by simpa [PyData.hasDict] using h)
    omega
  | .tuple xs, h => by
    simp only [PyData.shown, wD]
    have := ttx_len (PyData.shownAll xs)
    have := shown_les xs (by simpa [PyData.hasDict] using h)
    omega
  | .dict _, h => by simp [PyData.hasDict] at h
theorem shown_les : ∀ xs : List D, PyData.hasDictAll xs = false → ((PyData.shownAll xs).map fun t => t.length + 2).sum ≤ wDs xs
  | [], _ => Nat.le_refl _
  | x :: xs, h => by
    simp only [PyData.hasDictAll, Bool.or_eq_false_iff] at h
    have h1 := shown_le x h.1
    have h2 := shown_les xs h.2
    show (x.shown.length + 2) + _ ≤ wD x + 2 + wDs xs
    exact Nat.add_le_add (by omega) h2
end
theorem repr_ok {d : D} (h1 : d.showable = true) (h2 : d.hasDict = false) (h3 : d.depth ≤ 50) (h4 : wD d ≤ 100000) : bltD .repr [d] = some (.str d.shown) := by
  have e : reprD [d] = if reprOk d = true then some (.str d.shown) else none := by
    cases d <;> first | rfl | (simp [PyData.hasDict] at h2)
  refine Eq.trans e (if_pos ?_)
  unfold reprOk
  rw [h1, h2, decide_eq_true h3, decide_eq_true (show d.shown.length ≤ lim from Nat.le_trans (shown_le d h2) h4)]
  rfl
theorem log_lt {i : Int} {k : Nat} (hk : 0 < k) (h : Bd k i) : i.natAbs.log2 < k := PySem.Flt.log2_lt_of hk h
theorem repr_int {i : Int} (h : Bd 1900 i) : bltD .repr [.int i] = some (.str (PyData.int i).shown) := by
  have := log_lt (by decide) h
  exact repr_ok (by simp [PyData.showable]; omega) rfl (by simp [PyData.depth]) (by simp [wD]; omega)
theorem repr_bool (b : Bool) : bltD .repr [.bool b] = some (.str (PyData.bool b).shown) := by cases b <;> kernel_rfl
theorem repr_none : bltD .repr [.none] = some (.str (PyData.none).shown) := by kernel_rfl
theorem eqv_str' (u : Str) : PyData.eqv (.str u) (.str u) = true := by simp [PyData.eqv]
theorem ne_str' (u : Str) : cmpD .NotEq (.str u) (.str u) = some false := by
  show (eqD (.str u) (.str u)).map (!·) = _
  unfold eqD
  rw [if_pos (by rfl), eqv_str']
  rfl
theorem eq_str' (u : Str) : cmpD .Eq (.str u) (.str u) = some true := by
  show eqD (.str u) (.str u) = _
  unfold eqD
  rw [if_pos (by rfl), eqv_str']
theorem len_str (x : Str) : x.length = x.length := rfl
/-! words about loops -/
theorem for_same {st : D → Ro → Option Ro} {body : Ro → SR} (J : Ro → Prop) : ∀ {xs : List D} {ρ : Ro}, (∀ x ∈ xs, ∀ ρ, J ρ → ∃ ρ1 ρ2, st x ρ = some ρ1 ∧ body ρ1 = .nx ρ2 ∧ J ρ2) → J ρ → ∃ ρ', forL st body xs ρ = .nx ρ' ∧ J ρ'
  | [], ρ, _, h0 => ⟨ρ, rfl, h0⟩
  | x :: xs, ρ, h, h0 => by
    obtain ⟨ρ1, ρ2, h1, h2, h3⟩ := h x List.mem_cons_self ρ h0
    obtain ⟨ρ', h4, h5⟩ := for_same J (xs := xs) (ρ := ρ2) (fun y hy => h y (List.mem_cons_of_mem _ hy)) h3
    refine ⟨ρ', ?_, h5⟩
    unfold forL
    rw [h1]
    simp only [h2]
    exact h4
theorem idx_mem {xs : List D} {r : Int} (h0 : 0 ≤ r) (h1 : r < (xs.length : Int)) : ∃ x ∈ xs, idxD (.list xs) (.int r) = some x := by
  have hn : r.toNat < xs.length := by omega
  refine ⟨xs[r.toNat], List.getElem_mem hn, ?_⟩
  show atI xs r = _
  unfold atI ixN
  rw [if_pos h0, if_pos (by omega)]
  simp [hn]
theorem idx_get' {xs : List D} {r : Nat} {x : D} (h : xs[r]? = some x) : idxD (.list xs) (.int (r : Nat)) = some x := by
  obtain ⟨h1, h2⟩ := List.getElem?_eq_some_iff.mp h
  show atI xs (r : Nat) = _
  unfold atI ixN
  rw [if_pos (by omega), if_pos (by omega)]
  simp [h1, h2]
/-! drawn numbers -/
section
variable {tbl : List (Str × De)} {n : Nat}
theorem draw_lk (h : Lk tbl "_law_draw" 4 2 true drawC) {C : Nat} (hC : C < 2 ^ 60) {s : List D} {many : Int} (hs : SrcOk C s) (hm : 0 < many) (hm2 : Bd 4096 many) :
    ∃ r s', calN tbl (n + 1) "_law_draw" [.list s, .int many] = .ok (.int r) (some (.list s')) ∧ 0 ≤ r ∧ r < many ∧ SrcOk (C + 1) s' := by
  obtain ⟨N, h2, e⟩ := lk_runD (n := n) (ds := [.list s, .int many]) h rfl
  obtain ⟨r, s', q, q2⟩ := draw_val (cal := calN tbl n) h2 hC hs hm hm2
  exact ⟨r, s', by rw [e, q], q2⟩
theorem source_lk (h : Lk tbl "_law_source" 4 2 false sourceC) (ns : List Int) {p : Nat} (hp : p ≤ 100) : ∃ s, calN tbl (n + 1) "_law_source" [.list (ns.map .int), .int (p : Nat)] = .ow s none ∧ SrcOk 0 s := by
  obtain ⟨N, h2, e⟩ := lk_runD (n := n) (ds := [.list (ns.map .int), .int (p : Nat)]) h rfl
  obtain ⟨s, q, q2⟩ := source_val (cal := calN tbl n) h2 ns hp
  exact ⟨s, by rw [e, q], q2⟩
end
end Ev
namespace Ev
set_option exponentiation.threshold 5000
open PySem PySem.Spec PyProof.Rows L2
theorem evComp_go {cal : Cal} {b0 : Bool} {kind : Nat} {its : List CE} {tg : List Nat} {one : Bool} {own : List Nat} {cnd : Option CE} {elt : CE} {ρ ρ1 : Ro} {ds xs : List D} (p : D → Bool) (g : D → D) (hA : evA cal b0 its ρ = .ok ds ρ1) (hI : itemsD kind ds = some xs)
    (hf : (free ρ1 own && !(b0 && own.contains 0) && tg.all own.contains) = true) (hl : xs.length ≤ 100000) (hb : backR ρ1 (wipeR ρ1 own) own = ρ1)
    (h : ∀ x ∈ xs, ∃ ρ2, setTg b0 tg one x (wipeR ρ1 own) = some ρ2 ∧ evC cal b0 cnd ρ2 = .ok (p x) ρ2 ∧ (p x = true → ev cal b0 elt ρ2 = .ok (g x) ρ2) ∧ wipeR ρ2 own = wipeR ρ1 own) :
    evComp cal b0 kind its tg one own cnd elt ρ = .ok ((xs.filter p).map g) ρ1 := by
  unfold evComp
  rw [hA]
  simp only [Rs.bind_ok]
  rw [hI]
  simp only
  rw [if_pos hf, comp_filter (p := p) (g := g) (fun x hx => by
    obtain ⟨ρ2, h1, h2, h3, h4⟩ := h x hx
    exact ⟨ρ2, ρ2, h1, h2, fun q => ⟨ρ2, h3 q, h4⟩, fun _ => h4⟩) (by show 0 + xs.length ≤ lim; unfold lim; omega)]
  simp only [Rs.bind_ok, List.nil_append, hb]
theorem evS_fr {cal : Cal} {b0 : Bool} {kind : Nat} {its : List CE} {tg : List Nat} {one : Bool} {body : List CS} {ρ ρ1 : Ro} {ds xs : List D} (hA : evA cal b0 its ρ = .ok ds ρ1) (hI : itemsD kind ds = some xs) :
    evS cal b0 (.fr kind its tg one body) ρ = forL (setTg b0 tg one) (evB cal b0 body) xs ρ1 := by
  rw [evS, hA]
  simp only [Rs.bind_ok]
  rw [hI]
  rfl
theorem evS_own {cal : Cal} {b0 : Bool} {i : Nat} {e : CE} {ρ ρ1 : Ro} {ds : List D} (h : evOwn cal b0 e ρ = .ok ds ρ1) (hi : (b0 && i == 0) = false) : evS cal b0 (.own i e) ρ = .nx (ρ1.set i (some (.list ds, true))) := by
  rw [evS, h]
  show ofS (setOwn b0 i ds ρ1) = _
  unfold setOwn
  rw [hi]
  rfl
theorem evB_cons {cal : Cal} {b0 : Bool} {s : CS} {ss : List CS} {ρ ρ' : Ro} (h : evS cal b0 s ρ = .nx ρ') : evB cal b0 (s :: ss) ρ = evB cal b0 ss ρ' := by
  rw [evB, h]
  rfl
theorem evB_app {cal : Cal} {b0 : Bool} : ∀ {xs ys : List CS} {ρ ρ' : Ro}, evB cal b0 xs ρ = .nx ρ' → evB cal b0 (xs ++ ys) ρ = evB cal b0 ys ρ'
  | [], ys, ρ, ρ', h => by simp only [evB] at h; cases h; rfl
  | x :: xs, ys, ρ, ρ', h => by
    rw [List.cons_append]
    simp only [evB] at h ⊢
    cases hx : evS cal b0 x ρ with
    | nx ρ1 =>
      rw [hx] at h
      exact evB_app h
    | _ => rw [hx] at h; cases h
/-! the lit ticks of a window, one by one -/
section
variable {P S L : Int} {d : Str}
def pLit (P S L j : Int) (x : D) : Bool := match x with
  | .int t => decide ((t - j * S) % (P * S) < L)
  | _ => false
theorem rows_lit (v : Val P S L d) (j a : Int) (m : Nat) : (rngL a (a + m)).filter (pLit P S L j) = (List.range (ahd P S L j (a + m) - ahd P S L j a).toNat).map fun (k : Nat) => PyData.int (ntk P S L j (ahd P S L j a + k)) := by
  have h := Lit.lit_list (R := P * S) (L := L) (by have := v.l1; omega) v.lR (a - j * S) m
  unfold rngL
  rw [show a + (m : Int) - a = m by omega, Int.toNat_natCast]
  have h2 := congrArg (List.map fun u : Int => PyData.int (u + j * S)) h
  rw [List.filter_map, List.map_map, List.map_map] at h2
  rw [List.filter_map]
  have e1 : (pLit P S L j ∘ fun (k : Nat) => PyData.int (a + k)) = ((fun v : Int => decide (v % (P * S) < L)) ∘ fun (k : Nat) => a - j * S + (k : Int)) := by
    funext k
    show decide ((a + k - j * S) % (P * S) < L) = decide ((a - j * S + k) % (P * S) < L)
    rw [show a + (k : Int) - j * S = a - j * S + k by omega]
  have e2 : (fun (k : Nat) => PyData.int (a + k)) = ((fun u : Int => PyData.int (u + j * S)) ∘ fun (k : Nat) => a - j * S + (k : Int)) := by
    funext k
    show PyData.int (a + k) = PyData.int (a - j * S + (k : Int) + j * S)
    congr 1
    omega
  rw [e1, e2, h2]
  unfold ahd
  rw [show a - j * S + (m : Int) = a + m - j * S by omega]
  congr 1
  funext k
  show PyData.int (Lit.nthU (P * S) L (Lit.cnt (P * S) L (a - j * S) + (k : Int)) + j * S) = PyData.int (ntk P S L j (Lit.cnt (P * S) L (a - j * S) + k))
  congr 1
  rw [← ntk_eq (j := j)]
  omega
theorem ntk_bd (v : Val P S L d) {j : Int} (h0 : 0 ≤ j) (h1 : j < P) {A : Int} (hA : Bd 1500 A) : Bd 1900 (ntk P S L j A) := by
  have bj : Bd 4 j := by have := v.p8; unfold Bd; omega
  have l0 : 0 < L := by have := v.l1; omega
  unfold ntk
  exact (((((hA.div l0).mul v.pb).add bj).mul v.sb).add (v.lb.mod l0)).up (by decide)
theorem ahd_bdk (v : Val P S L d) {j : Int} (h0 : 0 ≤ j) (h1 : j < P) {t : Int} {k : Nat} (hk : 304 ≤ k) (ht : Bd k t) : Bd (k + 302) (ahd P S L j t) := by
  have bj : Bd 4 j := by have := v.p8; unfold Bd; omega
  have bt : Bd (k + 1) (t - j * S) := (ht.sub (bj.mul v.sb)).up (by omega)
  unfold ahd Lit.cnt
  have b1 := (bt.div v.sR.2).mul v.lb
  have b2 : Bd 304 (if L < (t - j * S) % (P * S) then L else (t - j * S) % (P * S)) := by
    split
    · exact v.lb.up (by decide)
    · exact v.rb.mod v.sR.2
  exact (b1.add b2).up (by omega)
theorem ntk_bdk (v : Val P S L d) {j : Int} (h0 : 0 ≤ j) (h1 : j < P) {A : Int} {k : Nat} (hk : 300 ≤ k) (hA : Bd k A) : Bd (k + 306) (ntk P S L j A) := by
  have bj : Bd 4 j := by have := v.p8; unfold Bd; omega
  have l0 : 0 < L := by have := v.l1; omega
  unfold ntk
  exact (((((hA.div l0).mul v.pb).add bj).mul v.sb).add (v.lb.mod l0)).up (by omega)
theorem ahd_add (v : Val P S L d) (j t k : Int) : ahd P S L j (t + k * (P * S)) = ahd P S L j t + k * L := by
  unfold ahd
  rw [show t + k * (P * S) - j * S = t - j * S + k * (P * S) by omega]
  exact Lit.cnt_shift v.sR.2 _ _
end
theorem rng1 {a b : Int} : itemsD 1 [.int a, .int b] = some (rngL a b) := rfl
theorem rng_len' (a b : Int) : (rngL a b).length = (b - a).toNat := by simp [rngL]
theorem rng_mem {a b : Int} {x : D} (h : x ∈ rngL a b) : ∃ t, x = .int t ∧ a ≤ t ∧ t < b := by
  unfold rngL at h
  rw [List.mem_map] at h
  obtain ⟨k, h1, rfl⟩ := h
  rw [List.mem_range] at h1
  exact ⟨_, rfl, by omega, by omega⟩
end Ev

set_option Elab.async false
set_option linter.all false
set_option maxRecDepth 100000
set_option maxHeartbeats 4000000
namespace Ev
set_option exponentiation.threshold 5000
open PySem PySem.Spec PyProof.Rows L2
def c_law_pane : List CS := [.asg 3 (.bin .Add (.cst (PyData.int 1)) (.cio "_law_draw" 0 [(.idx (.lst [(.cst (PyData.int 4)), (.cst (PyData.int 12)), (.var 2)]) (.cio "_law_draw" 0 [(.cst (PyData.int 3))]))])), .asg 4 (.idx (.lst [(.cst (PyData.int 1)), (.var 3), (.bin .Add (.cst (PyData.int 1)) (.cio "_law_draw" 0 [(.var 3)]))]) (.cio "_law_draw" 0 [(.cst (PyData.int 3))])), .ret (.tup [(.bin .Add (.cst (PyData.int 1)) (.cio "_law_draw" 0 [(.var 1)])), (.var 3), (.var 4), (.idx (.lst [(.cst (PyData.str "now")), (.cst (PyData.str "round"))]) (.cio "_law_draw" 0 [(.cst (PyData.int 2))]))])]
section
variable {tbl : List (Str × De)} {n : Nat}
theorem pane_val (hD : Lk tbl "_law_draw" 4 2 true drawC) (h : Lk tbl "_law_pane" 5 3 true c_law_pane) {C : Nat} (hC : C + 10 < 2 ^ 60) {s : List D} (hs : SrcOk C s) {most far : Int} (m1 : 1 ≤ most) (m8 : most ≤ 8) (f1 : 1 ≤ far) (fb : far ≤ 10 ^ 28) :
    ∃ P S L d s', calN tbl (n + 2) "_law_pane" [.list s, .int most, .int far] = .ok (dsp P S L d) (some (.list s')) ∧ Val P S L d ∧ P ≤ most ∧ S ≤ max 12 far ∧ SrcOk (C + 6) s' := by
  obtain ⟨r1, s1, e1, a1, b1, o1⟩ := draw_lk (n := n) hD (by omega) hs (many := 3) (by decide) (by decide)
  obtain ⟨x1, hx1, i1⟩ := idx_mem (xs := [.int 4, .int 12, .int far]) a1 b1
  obtain ⟨m, rfl, mm1, mm2⟩ : ∃ m, x1 = .int m ∧ 1 ≤ m ∧ m ≤ max 12 far := by
    simp at hx1
    rcases hx1 with rfl | rfl | rfl
    · exact ⟨4, rfl, by omega, by omega⟩
    · exact ⟨12, rfl, by omega, by omega⟩
    · exact ⟨far, rfl, by omega, by omega⟩
  have c28 : (10 : Int) ^ 28 = 10000000000000000000000000000 := by decide
  obtain ⟨r2, s2, e2, a2, b2, o2⟩ := draw_lk (n := n) hD (by omega) o1 (many := m) (by omega) ((Bd.of (k := 200) (by omega) (by omega)).up (by decide))
  obtain ⟨r3, s3, e3, a3, b3, o3⟩ := draw_lk (n := n) hD (by omega) o2 (many := 1 + r2) (by omega) ((Bd.of (k := 200) (by omega) (by omega)).up (by decide))
  obtain ⟨r4, s4, e4, a4, b4, o4⟩ := draw_lk (n := n) hD (by omega) o3 (many := 3) (by decide) (by decide)
  obtain ⟨x2, hx2, i2⟩ := idx_mem (xs := [.int 1, .int (1 + r2), .int (1 + r3)]) a4 b4
  obtain ⟨L, rfl, l1, l2⟩ : ∃ m, x2 = .int m ∧ 1 ≤ m ∧ m ≤ 1 + r2 := by
    simp at hx2
    rcases hx2 with rfl | rfl | rfl
    · exact ⟨1, rfl, by omega, by omega⟩
    · exact ⟨1 + r2, rfl, by omega, by omega⟩
    · exact ⟨1 + r3, rfl, by omega, by omega⟩
  obtain ⟨r5, s5, e5, a5, b5, o5⟩ := draw_lk (n := n) hD (by omega) o4 (many := most) (by omega) ((Bd.of (k := 200) (by omega) (by omega)).up (by decide))
  obtain ⟨r6, s6, e6, a6, b6, o6⟩ := draw_lk (n := n) hD (by omega) o5 (many := 2) (by decide) (by decide)
  obtain ⟨x3, hx3, i3⟩ := idx_mem (xs := [.str "now", .str "round"]) a6 b6
  obtain ⟨d, rfl, dd⟩ : ∃ d : Str, x3 = .str d ∧ (d = ("now" : Str) ∨ d = ("round" : Str)) := by
    simp at hx3
    rcases hx3 with rfl | rfl
    · exact ⟨_, rfl, .inl rfl⟩
    · exact ⟨_, rfl, .inr rfl⟩
  refine ⟨1 + r5, 1 + r2, L, d, s6, ?_, ⟨by omega, by omega, by omega, l1, l2, dd, (Bd.of (k := 200) (by omega) (by omega)).up (by decide)⟩, by omega, by omega, o6⟩
  rw [lk_runL h rfl]
  simp [c_law_pane, evB, evS, evT, ev, evA, evO, evC, Rs.st, Rs.bind, ofO, SR.seq, set0, ofS, setTg, setMany, truR, truD, callR, permD, outR, oldR, nons, List.replicate, lim, cioR, outL, lent, lim, e1, e2, e3, e4, e5, e6, i1, i2, i3, o_add, dsp]
end
end Ev

set_option Elab.async false
set_option linter.all false
set_option maxRecDepth 100000
set_option maxHeartbeats 4000000
namespace Ev
set_option exponentiation.threshold 5000
open PySem PySem.Spec PyProof.Rows L2
/-! ## the law's outer loops -/
def manyCE (k : Int) : CE := .blt .max [(.cst (PyData.int 1)), (.blt .min [(.cst (PyData.int k)), (.blt .len [(.var 0)])])]
theorem min_nat (k n : Nat) : bltD .min [.int (k : Nat), .int (n : Nat)] = some (.int ((min k n : Nat) : Int)) := by
  show some (PyData.int (if ((n : Nat) : Int) < (k : Nat) then (n : Int) else (k : Nat))) = _
  by_cases h : n < k
  · rw [if_pos (by omega), Nat.min_eq_right (by omega)]
  · rw [if_neg (by omega), Nat.min_eq_left (by omega)]
theorem max_nat (n : Nat) : bltD .max [.int 1, .int (n : Nat)] = some (.int ((max 1 n : Nat) : Int)) := by
  show some (PyData.int (if (n : Int) > 1 then (n : Int) else 1)) = _
  by_cases h : n > 1
  · rw [if_pos (by omega), Nat.max_eq_right (by omega)]
  · rw [if_neg (by omega), Nat.max_eq_left (by omega)]
    rfl
theorem many_go {cal : Cal} {b0 : Bool} {ns : List Int} {ρ : Ro} {k : Nat} (h : ρ[0]? = some (some (.list (ns.map .int), false))) : evA cal b0 [manyCE (k : Nat)] ρ = .ok [.int ((max 1 (min k ns.length) : Nat) : Int)] ρ := by
  have l0 : bltD .len [.list (ns.map PyData.int)] = some (.int ((ns.length : Nat) : Int)) := by
    show some (PyData.int ((ns.map PyData.int).length : Nat)) = _
    rw [List.length_map]
  unfold manyCE
  simp only [evA, ev, h, Rs.bind_ok, l0, ofO_some, min_nat, max_nat]
theorem rng0_len (n : Nat) : (rngL 0 n).length = n := by simp [rngL]
theorem rng0_at {n i : Nat} {x : D} (h : (rngL 0 n)[i]? = some x) : x = .int (i : Nat) ∧ i < n := by
  unfold rngL at h
  rw [List.getElem?_map] at h
  cases q : (List.range ((n : Int) - 0).toNat)[i]? with
  | none => rw [q] at h; cases h
  | some k =>
    rw [q] at h
    obtain ⟨h1, h2⟩ := List.getElem?_eq_some_iff.mp q
    rw [List.getElem_range] at h2
    subst h2
    rw [List.length_range] at h1
    cases h
    exact ⟨by simp, by omega⟩
theorem rng0_items {n : Nat} (h : n ≤ 1000) : itemsD 1 [PyData.int (n : Nat)] = some (rngL 0 (n : Nat)) := rfl
/-- for .. in range(m) -/
theorem rng_loop {cal : Cal} {b0 : Bool} {tg : List Nat} {one : Bool} {body : List CS} (m : Nat) (I : Nat → Ro → Prop) (h : ∀ i, i < m → ∀ ρ, I i ρ → ∃ ρ1 ρ2, setTg b0 tg one (.int (i : Nat)) ρ = some ρ1 ∧ evB cal b0 body ρ1 = .nx ρ2 ∧ I (i + 1) ρ2) {ρ : Ro} (h0 : I 0 ρ) :
    ∃ ρ', forL (setTg b0 tg one) (evB cal b0 body) (rngL 0 (m : Nat)) ρ = .nx ρ' ∧ I m ρ' := by
  obtain ⟨ρ', h1, h2⟩ := for_inv (st := setTg b0 tg one) (body := evB cal b0 body) I (xs := rngL 0 (m : Nat)) (k := 0) (ρ := ρ) (fun i x ρ hx hI => by
    obtain ⟨rfl, hi⟩ := rng0_at hx
    rw [Nat.zero_add] at hI ⊢
    exact h i hi ρ hI) h0
  exact ⟨ρ', h1, by rwa [rng0_len, Nat.zero_add] at h2⟩
theorem laps_go {cal : Cal} {b0 : Bool} {tg : List Nat} {one : Bool} {body : List CS} (m : Nat) (hm : m ≤ 1000) (I : Nat → Ro → Prop) (h : ∀ i, i < m → ∀ ρ, I i ρ → ∃ ρ1 ρ2, setTg b0 tg one (.int (i : Nat)) ρ = some ρ1 ∧ evB cal b0 body ρ1 = .nx ρ2 ∧ I (i + 1) ρ2) {ρ : Ro} (h0 : I 0 ρ) :
    ∃ ρ', evS cal b0 (.fr 1 [.cst (.int (m : Nat))] tg one body) ρ = .nx ρ' ∧ I m ρ' := by
  rw [evS_fr (ρ1 := ρ) (ds := [.int (m : Nat)]) (xs := rngL 0 (m : Nat)) (by simp only [evA, ev, Rs.bind_ok]) (rng0_items hm)]
  exact rng_loop m I h h0
/-- for at in range(max(1, min(k, len(script)))) -/
theorem ats_go {cal : Cal} {b0 : Bool} {tg : List Nat} {one : Bool} {body : List CS} {ns : List Int} (k : Nat) (hk : k ≤ 100) (hk1 : 1 ≤ k) (J : Ro → Prop) {ρ : Ro} (hρ : ρ[0]? = some (some (.list (ns.map .int), false))) (h : ∀ i, i < k → ∀ ρ, J ρ → ∃ ρ1 ρ2, setTg b0 tg one (.int (i : Nat)) ρ = some ρ1 ∧ evB cal b0 body ρ1 = .nx ρ2 ∧ J ρ2) (h0 : J ρ) :
    ∃ ρ', evS cal b0 (.fr 1 [manyCE (k : Nat)] tg one body) ρ = .nx ρ' ∧ J ρ' := by
  rw [evS_fr (many_go hρ) (rng0_items (by omega))]
  exact rng_loop _ (fun _ => J) (fun i hi ρ hJ => h i (by omega) ρ hJ) h0
def isRT : SR → Bool
  | .rt (.bool b) _ => b
  | _ => false
theorem isRT_ok {r : SR} (h : isRT r = true) : ∃ ρ, r = .rt (.bool true) ρ := by
  cases r with
  | rt d ρ =>
    cases d with
    | bool b => cases b with
      | true => exact ⟨ρ, rfl⟩
      | false => cases h
    | _ => cases h
  | _ => cases h
end Ev

set_option Elab.async false
set_option linter.all false
set_option maxRecDepth 100000
set_option maxHeartbeats 4000000
namespace Ev
set_option exponentiation.threshold 5000
open PySem PySem.Spec PyProof.Rows L2
/-! ## what follows from a run, part by part -/
def WE {α : Type} (r : Rs α) (Q : α → Ro → Prop) : Prop := match r with
  | .ok a ρ => Q a ρ
  | _ => False
def WS (r : SR) (Q : SR → Prop) : Prop := Q r
def sq (K : Ro → Prop) (Q : SR → Prop) : SR → Prop := fun r => match r with
  | .nx ρ => K ρ
  | r => Q r
/-- behind a turn of a loop -/
def lq (N B : Ro → Prop) (Q : SR → Prop) : SR → Prop := fun r => match r with
  | .nx ρ => N ρ
  | .ct ρ => N ρ
  | .bk ρ => B ρ
  | r => Q r
theorem WE.bind {α β : Type} {r : Rs α} {f : α → Ro → Rs β} {Q : β → Ro → Prop} (h : WE r fun a ρ => WE (f a ρ) Q) : WE (r.bind f) Q := by
  cases r with
  | ok a ρ => exact h
  | er c f ρ => exact h.elim
  | bad => exact h.elim
theorem WE.ok {α : Type} {a : α} {ρ : Ro} {Q : α → Ro → Prop} (h : Q a ρ) : WE (.ok a ρ) Q := h
theorem WE.mono {α : Type} {r : Rs α} {Q Q' : α → Ro → Prop} (h : WE r Q) (k : ∀ a ρ, Q a ρ → Q' a ρ) : WE r Q' := by
  cases r with
  | ok a ρ => exact k _ _ h
  | er c f ρ => exact h.elim
  | bad => exact h.elim
theorem WE.get {α : Type} {r : Rs α} {Q : α → Ro → Prop} (h : WE r Q) : ∃ a ρ, r = .ok a ρ ∧ Q a ρ := by
  cases r with
  | ok a ρ => exact ⟨a, ρ, rfl, h⟩
  | er c f ρ => exact h.elim
  | bad => exact h.elim
theorem WE.of {α : Type} {r : Rs α} {a : α} {ρ : Ro} {Q : α → Ro → Prop} (e : r = .ok a ρ) (h : Q a ρ) : WE r Q := by rw [e]; exact h
section
variable {cal : Cal} {b0 : Bool} {ρ : Ro} {Q : D → Ro → Prop} {QA : List D → Ro → Prop}
/-! expressions -/
theorem we_var {i : Nat} {d : D} (h : ρ[i]? = some (some (d, false))) (q : Q d ρ) : WE (ev cal b0 (.var i) ρ) Q := by
  simp only [ev, h]; exact q
theorem we_varO {i : Nat} {d : D} (h : ρ[i]? = some (some (d, true))) (h0 : (b0 && i == 0) = false) (q : Q d (ρ.set i (some (d, false)))) : WE (ev cal b0 (.var i) ρ) Q := by
  simp only [ev, h, h0]; exact q
theorem we_cst {d : D} (q : Q d ρ) : WE (ev cal b0 (.cst d) ρ) Q := by simp only [ev]; exact q
theorem we_gcn {x : Str} {d : D} (q : Q d ρ) : WE (ev cal b0 (.gcn x d) ρ) Q := by simp only [ev]; exact q
theorem ofO_we {α : Type} {o : Option α} {Q : α → Ro → Prop} (h : ∃ d, o = some d ∧ Q d ρ) : WE (ofO o ρ) Q := by
  obtain ⟨d, rfl, q⟩ := h; exact q
theorem we_bin {op : Operator} {a b : CE} (h : WE (ev cal b0 a ρ) fun x ρ1 => WE (ev cal b0 b ρ1) fun y ρ2 => ∃ d, opD op x y = some d ∧ Q d ρ2) : WE (ev cal b0 (.bin op a b) ρ) Q := by
  simp only [ev]
  exact WE.bind (h.mono fun x ρ1 h => WE.bind (h.mono fun y ρ2 h => ofO_we h))
theorem we_neg {a : CE} (h : WE (ev cal b0 a ρ) fun x ρ1 => ∃ d, negD x = some d ∧ Q d ρ1) : WE (ev cal b0 (.neg a) ρ) Q := by
  simp only [ev]
  exact WE.bind (h.mono fun x ρ1 h => ofO_we h)
theorem we_not {a : CE} (h : WE (ev cal b0 a ρ) fun x ρ1 => ∃ b, x = .bool b ∧ Q (.bool (!b)) ρ1) : WE (ev cal b0 (.not a) ρ) Q := by
  simp only [ev]
  refine WE.bind (h.mono fun x ρ1 h => ?_)
  obtain ⟨b, rfl, q⟩ := h
  exact q
theorem ofM_we {o : Option Bool} (h : ∃ b, o = some b ∧ Q (.bool b) ρ) : WE (ofO (o.map .bool) ρ) Q := by
  obtain ⟨d, rfl, q⟩ := h; exact q
theorem we_cmp {op : CmpOp} {a b : CE} (h : WE (ev cal b0 a ρ) fun x ρ1 => WE (ev cal b0 b ρ1) fun y ρ2 => ∃ d, cmpD op x y = some d ∧ Q (.bool d) ρ2) : WE (ev cal b0 (.cmp op a b) ρ) Q := by
  simp only [ev]
  exact WE.bind (h.mono fun x ρ1 h => WE.bind (h.mono fun y ρ2 h => ofM_we h))
/-- a chain whose last part changes nothing -/
theorem we_chn {o1 o2 : CmpOp} {a b c : CE} (h : WE (ev cal b0 a ρ) fun x ρ1 => WE (ev cal b0 b ρ1) fun y ρ2 => ∃ k, cmpD o1 x y = some k ∧ WE (ev cal b0 c ρ2) fun z ρ3 => ρ3 = ρ2 ∧ ∃ m, cmpD o2 y z = some m ∧ Q (.bool (k && m)) ρ2) : WE (ev cal b0 (.chn o1 o2 a b c) ρ) Q := by
  simp only [ev]
  refine WE.bind (h.mono fun x ρ1 h => WE.bind (h.mono fun y ρ2 h => ?_))
  obtain ⟨k, e, h⟩ := h
  rw [e]
  obtain ⟨z, ρ3, e3, rfl, m, e4, q⟩ := h.get
  cases k with
  | true =>
    simp only [e3, Rs.bind_ok]
    exact ofM_we ⟨m, e4, q⟩
  | false => exact q
theorem we_and {a b : CE} (h : WE (ev cal b0 a ρ) fun x ρ1 => ∃ k, x = .bool k ∧ (k = true → WE (ev cal b0 b ρ1) Q) ∧ (k = false → Q (.bool false) ρ1)) : WE (ev cal b0 (.and a b) ρ) Q := by
  simp only [ev]
  refine WE.bind (h.mono fun x ρ1 h => ?_)
  obtain ⟨k, rfl, h1, h2⟩ := h
  cases k with
  | true => exact h1 rfl
  | false => exact h2 rfl
theorem we_or {a b : CE} (h : WE (ev cal b0 a ρ) fun x ρ1 => ∃ k, x = .bool k ∧ (k = true → Q (.bool true) ρ1) ∧ (k = false → WE (ev cal b0 b ρ1) Q)) : WE (ev cal b0 (.or a b) ρ) Q := by
  simp only [ev]
  refine WE.bind (h.mono fun x ρ1 h => ?_)
  obtain ⟨k, rfl, h1, h2⟩ := h
  cases k with
  | true => exact h1 rfl
  | false => exact h2 rfl
/-- both sides are well, the second changes nothing -/
theorem we_andP {a b : CE} (h : WE (ev cal b0 a ρ) fun x ρ1 => ∃ k, x = .bool k ∧ WE (ev cal b0 b ρ1) fun y ρ2 => ρ2 = ρ1 ∧ ∃ m, y = .bool m ∧ Q (.bool (k && m)) ρ1) : WE (ev cal b0 (.and a b) ρ) Q := by
  refine we_and (h.mono fun x ρ1 h => ?_)
  obtain ⟨k, rfl, h⟩ := h
  obtain ⟨y, ρ2, e, rfl, m, rfl, q⟩ := h.get
  refine ⟨k, rfl, fun z => ?_, fun z => ?_⟩
  · subst z; rw [e]; exact q
  · subst z; exact q
theorem we_orP {a b : CE} (h : WE (ev cal b0 a ρ) fun x ρ1 => ∃ k, x = .bool k ∧ WE (ev cal b0 b ρ1) fun y ρ2 => ρ2 = ρ1 ∧ ∃ m, y = .bool m ∧ Q (.bool (k || m)) ρ1) : WE (ev cal b0 (.or a b) ρ) Q := by
  refine we_or (h.mono fun x ρ1 h => ?_)
  obtain ⟨k, rfl, h⟩ := h
  obtain ⟨y, ρ2, e, rfl, m, rfl, q⟩ := h.get
  refine ⟨k, rfl, fun z => ?_, fun z => ?_⟩
  · subst z; exact q
  · subst z; rw [e]; exact q
theorem we_ite {c a b : CE} (h : WE (ev cal b0 c ρ) fun x ρ1 => ∃ k, truD x = some k ∧ (k = true → WE (ev cal b0 a ρ1) Q) ∧ (k = false → WE (ev cal b0 b ρ1) Q)) : WE (ev cal b0 (.ite c a b) ρ) Q := by
  simp only [ev]
  refine WE.bind (h.mono fun x ρ1 h => ?_)
  obtain ⟨k, e, h1, h2⟩ := h
  unfold truR
  rw [e]
  cases k with
  | true => exact h1 rfl
  | false => exact h2 rfl
theorem we_nil (q : QA [] ρ) : WE (evA cal b0 [] ρ) QA := by simp only [evA]; exact q
theorem we_cons {e : CE} {es : List CE} (h : WE (ev cal b0 e ρ) fun d ρ1 => WE (evA cal b0 es ρ1) fun ds ρ2 => QA (d :: ds) ρ2) : WE (evA cal b0 (e :: es) ρ) QA := by
  simp only [evA]
  exact WE.bind (h.mono fun x ρ1 h => WE.bind (h.mono fun y ρ2 h => h))
theorem we_tup {es : List CE} (h : WE (evA cal b0 es ρ) fun ds ρ1 => ds.length ≤ 100000 ∧ Q (.tuple ds) ρ1) : WE (ev cal b0 (.tup es) ρ) Q := by
  simp only [ev]
  exact WE.bind (h.mono fun ds ρ1 h => by rw [if_pos (show ds.length ≤ lim from h.1)]; exact h.2)
theorem we_lst {es : List CE} (h : WE (evA cal b0 es ρ) fun ds ρ1 => ds.length ≤ 100000 ∧ Q (.list ds) ρ1) : WE (ev cal b0 (.lst es) ρ) Q := by
  simp only [ev]
  exact WE.bind (h.mono fun ds ρ1 h => by rw [if_pos (show ds.length ≤ lim from h.1)]; exact h.2)
theorem we_idx {a b : CE} (h : WE (ev cal b0 a ρ) fun x ρ1 => WE (ev cal b0 b ρ1) fun y ρ2 => ∃ d, idxD x y = some d ∧ Q d ρ2) : WE (ev cal b0 (.idx a b) ρ) Q := by
  simp only [ev]
  exact WE.bind (h.mono fun x ρ1 h => WE.bind (h.mono fun y ρ2 h => ofO_we h))
theorem we_idv {i : Nat} {b : CE} {d : D} (hi : ρ[i]? = some (some (d, false))) (h : WE (ev cal b0 b ρ) fun y ρ1 => ∃ e, idxD d y = some e ∧ Q e ρ1) : WE (ev cal b0 (.idv i b) ρ) Q := by
  simp only [ev, hi]
  exact WE.bind (h.mono fun y ρ2 h => ofO_we h)
theorem we_idvO {i : Nat} {b : CE} {d : D} (hi : ρ[i]? = some (some (d, true))) (h : WE (ev cal b0 b ρ) fun y ρ1 => ∃ d, ρ1[i]? = some (some (d, true)) ∧ ∃ e, idxD d y = some e ∧ Q e ρ1) : WE (ev cal b0 (.idv i b) ρ) Q := by
  simp only [ev, hi]
  refine WE.bind (h.mono fun y ρ2 h => ?_)
  obtain ⟨d', e, h⟩ := h
  rw [e]
  exact ofO_we h
theorem evO_none {QO : Option Int → Ro → Prop} (q : QO none ρ) : WE (evO cal b0 none ρ) QO := by simp only [evO]; exact q
theorem evO_some {e : CE} {QO : Option Int → Ro → Prop} (h : WE (ev cal b0 e ρ) fun x ρ1 => ∃ i, x = .int i ∧ QO (some i) ρ1) : WE (evO cal b0 (some e) ρ) QO := by
  simp only [evO]
  refine WE.bind (h.mono fun x ρ1 h => ?_)
  obtain ⟨i, rfl, q⟩ := h
  exact q
theorem we_slc {a : CE} {lo hi : Option CE} (h : WE (ev cal b0 a ρ) fun x ρ1 => WE (evO cal b0 lo ρ1) fun l ρ2 => WE (evO cal b0 hi ρ2) fun u ρ3 => ∃ d, slcD x l u = some d ∧ Q d ρ3) : WE (ev cal b0 (.slc a lo hi) ρ) Q := by
  simp only [ev]
  exact WE.bind (h.mono fun x ρ1 h => WE.bind (h.mono fun y ρ2 h => WE.bind (h.mono fun y ρ2 h => ofO_we h)))
theorem we_rev {a : CE} (h : WE (ev cal b0 a ρ) fun x ρ1 => ∃ d, revD x = some d ∧ Q d ρ1) : WE (ev cal b0 (.rev a) ρ) Q := by
  simp only [ev]
  exact WE.bind (h.mono fun x ρ1 h => ofO_we h)
theorem we_call {f : Str} {perm : List Nat} {args : List CE} (h : WE (evA cal b0 args ρ) fun ds ρ1 => ∃ es, permD perm ds = some es ∧ WE (callR (cal f es) ρ1) Q) : WE (ev cal b0 (.call f perm args) ρ) Q := by
  simp only [ev]
  refine WE.bind (h.mono fun ds ρ1 h => ?_)
  obtain ⟨es, e, q⟩ := h
  rw [e]
  exact q
theorem we_cio {f : Str} {i : Nat} {args : List CE} {d0 : D} (hi : ρ[i]? = some (some (d0, true))) (h : WE (evA cal b0 args ρ) fun ds ρ1 => ∃ es, ρ1[i]? = some (some (.list es, true)) ∧ WE (cioR i (cal f (.list es :: ds)) ρ1) Q) : WE (ev cal b0 (.cio f i args) ρ) Q := by
  simp only [ev, hi]
  refine WE.bind (h.mono fun ds ρ1 h => ?_)
  obtain ⟨d, e, q⟩ := h
  rw [e]
  exact q
theorem we_ret {r : CR} {d : D} (e : r = .ok d none) (q : Q d ρ) : WE (callR r ρ) Q := by rw [e]; exact q
theorem we_retO {r : CR} {ds : List D} (e : r = .ow ds none) (q : Q (.list ds) ρ) : WE (callR r ρ) Q := by rw [e]; exact q
theorem we_cioR {r : CR} {i : Nat} {d x : D} (e : r = .ok d (some x)) (q : Q d (ρ.set i (some (x, true)))) : WE (cioR i r ρ) Q := by rw [e]; exact q
theorem we_cioRO {r : CR} {i : Nat} {ds : List D} {x : D} (e : r = .ow ds (some x)) (q : Q (.list ds) (ρ.set i (some (x, true)))) : WE (cioR i r ρ) Q := by rw [e]; exact q
theorem we_blt {f : Bi} {args : List CE} (h : WE (evA cal b0 args ρ) fun ds ρ1 => ∃ d, bltD f ds = some d ∧ Q d ρ1) : WE (ev cal b0 (.blt f args) ρ) Q := by
  simp only [ev]
  exact WE.bind (h.mono fun ds ρ1 h => ofO_we h)
theorem we_isi {a : CE} {c : String} (h : WE (ev cal b0 a ρ) fun x ρ1 => ∃ b, isiD x c = some b ∧ Q (.bool b) ρ1) : WE (ev cal b0 (.isi a c) ρ) Q := by
  simp only [ev]
  exact WE.bind (h.mono fun ds ρ1 h => ofM_we h)
theorem we_mth {m : Mi} {o : CE} {args : List CE} (h : WE (ev cal b0 o ρ) fun x ρ1 => recv m x = true ∧ WE (evA cal b0 args ρ1) fun ds ρ2 => ∃ d, mthD m x ds = some d ∧ Q d ρ2) : WE (ev cal b0 (.mth m o args) ρ) Q := by
  simp only [ev]
  refine WE.bind (h.mono fun x ρ1 h => ?_)
  rw [if_pos h.1]
  exact WE.bind (h.2.mono fun ds ρ1 h => ofO_we h)
theorem we_dct (q : Q (.dict []) ρ) : WE (ev cal b0 .dct ρ) Q := by simp only [ev]; exact q
theorem we_lr1 {a : CE} (h : WE (ev cal b0 a ρ) fun x ρ1 => ∃ d, lrD (.int 0) x = some d ∧ Q d ρ1) : WE (ev cal b0 (.lr1 a) ρ) Q := by
  simp only [ev]
  exact WE.bind (h.mono fun x ρ1 h => ofO_we h)
theorem we_srs {a : CE} (h : WE (ev cal b0 a ρ) fun x ρ1 => ∃ d, srsD x = some d ∧ Q d ρ1) : WE (ev cal b0 (.srs a) ρ) Q := by
  simp only [ev]
  exact WE.bind (h.mono fun x ρ1 h => ofO_we h)
theorem we_mnd {a b : CE} (h : WE (ev cal b0 a ρ) fun x ρ1 => WE (ev cal b0 b ρ1) fun y ρ2 => ∃ d, mndD x y = some d ∧ Q d ρ2) : WE (ev cal b0 (.mnd a b) ρ) Q := by
  simp only [ev]
  exact WE.bind (h.mono fun x ρ1 h => WE.bind (h.mono fun y ρ2 h => ofO_we h))
theorem we_lr2 {a b : CE} (h : WE (ev cal b0 a ρ) fun x ρ1 => WE (ev cal b0 b ρ1) fun y ρ2 => ∃ d, lrD x y = some d ∧ Q d ρ2) : WE (ev cal b0 (.lr2 a b) ρ) Q := by
  simp only [ev]
  exact WE.bind (h.mono fun x ρ1 h => WE.bind (h.mono fun y ρ2 h => ofO_we h))
theorem we_rpo {i : Nat} {d : D} {w : Bool} (hi : ρ[i]? = some (some (d, w))) (h : ∃ e, bltD .repr [d] = some e ∧ Q e ρ) : WE (ev cal b0 (.rpo i) ρ) Q := by
  simp only [ev, hi]
  exact ofO_we h
theorem we_neq {i : Nat} {d : D} {w : Bool} (hi : ρ[i]? = some (some (d, w))) (hs : SeqAt.shaped d = true) (q : Q (.bool (!PyData.eqv d (.list []))) ρ) : WE (ev cal b0 (.neq i) ρ) Q := by
  simp only [ev, hi]
  rw [if_pos hs]
  exact q
theorem we_comp {kind : Nat} {its : List CE} {tg : List Nat} {one : Bool} {own : List Nat} {cnd : Option CE} {elt : CE} (h : WE (evComp cal b0 kind its tg one own cnd elt ρ) fun ds ρ1 => Q (.list ds) ρ1) : WE (ev cal b0 (.comp kind its tg one own cnd elt) ρ) Q := by
  rw [ev_comp]
  exact WE.bind (h.mono fun ds ρ1 h => h)
/-- a comprehension that changes nothing -/
theorem wc_pure {kind : Nat} {its : List CE} {tg : List Nat} {one : Bool} {own : List Nat} {cnd : Option CE} {elt : CE} (p : D → Bool) (g : D → D)
    (h : WE (evA cal b0 its ρ) fun ds ρ1 => ∃ xs, itemsD kind ds = some xs ∧ (free ρ1 own && !(b0 && own.contains 0) && tg.all own.contains) = true ∧ xs.length ≤ 100000 ∧ backR ρ1 (wipeR ρ1 own) own = ρ1 ∧
      (∀ x ∈ xs, ∃ ρ2, setTg b0 tg one x (wipeR ρ1 own) = some ρ2 ∧ WE (evC cal b0 cnd ρ2) (fun k ρ3 => k = p x ∧ ρ3 = ρ2) ∧ (p x = true → WE (ev cal b0 elt ρ2) fun y ρ3 => y = g x ∧ ρ3 = ρ2) ∧ wipeR ρ2 own = wipeR ρ1 own) ∧ QA ((xs.filter p).map g) ρ1) :
    WE (evComp cal b0 kind its tg one own cnd elt ρ) QA := by
  obtain ⟨ds, ρ1, e1, xs, h1, h2, h3, h4, h5, q⟩ := h.get
  rw [evComp_go p g e1 h1 h2 h3 h4 fun x hx => ?_]
  · exact q
  · obtain ⟨ρ2, a1, a2, a3, a4⟩ := h5 x hx
    obtain ⟨k, ρ3, b1, rfl, rfl⟩ := a2.get
    refine ⟨_, a1, b1, fun z => ?_, a4⟩
    obtain ⟨y, ρ4, c1, rfl, rfl⟩ := (a3 z).get
    exact c1
theorem evC_none {k : Bool} (h : k = true) : WE (evC cal b0 none ρ) (fun k' ρ3 => k' = k ∧ ρ3 = ρ) := by
  simp only [evC]; exact ⟨h.symm, rfl⟩
theorem evC_some {e : CE} {QB : Bool → Ro → Prop} (h : WE (ev cal b0 e ρ) fun x ρ1 => ∃ k, truD x = some k ∧ QB k ρ1) : WE (evC cal b0 (some e) ρ) QB := by
  simp only [evC]
  refine WE.bind (h.mono fun x ρ1 h => ?_)
  obtain ⟨k, e, q⟩ := h
  unfold truR
  rw [e]
  exact q
theorem evT_we {c : CE} {QB : Bool → Ro → Prop} (h : WE (ev cal b0 c ρ) fun x ρ1 => ∃ k, truD x = some k ∧ QB k ρ1) : WE (evT cal b0 c ρ) QB := by
  unfold evT
  refine WE.bind (h.mono fun x ρ1 h => ?_)
  obtain ⟨k, e, q⟩ := h
  unfold truR
  rw [e]
  exact q
/-! owned -/
theorem wo_lst {es : List CE} (h : WE (evA cal b0 es ρ) fun ds ρ1 => ds.length ≤ 100000 ∧ QA ds ρ1) : WE (evOwn cal b0 (.lst es) ρ) QA := by
  simp only [evOwn]
  exact WE.bind (h.mono fun ds ρ1 h => by rw [if_pos (show ds.length ≤ lim from h.1)]; exact h.2)
theorem wo_comp {kind : Nat} {its : List CE} {tg : List Nat} {one : Bool} {own : List Nat} {cnd : Option CE} {elt : CE} (h : WE (evComp cal b0 kind its tg one own cnd elt ρ) QA) : WE (evOwn cal b0 (.comp kind its tg one own cnd elt) ρ) QA := by
  simp only [evOwn]; exact h
theorem wo_mul {a b : CE} (h : WE (ev cal b0 a ρ) fun x ρ1 => WE (ev cal b0 b ρ1) fun y ρ2 => ∃ xs j, x = .list xs ∧ y = .int j ∧ 0 ≤ j ∧ j ≤ 100000 ∧ xs.length * j.toNat ≤ 100000 ∧ QA (List.replicate j.toNat xs).flatten ρ2) : WE (evOwn cal b0 (.bin .Mult a b) ρ) QA := by
  simp only [evOwn]
  refine WE.bind (h.mono fun x ρ1 h => WE.bind (h.mono fun y ρ2 h => ?_))
  obtain ⟨xs, j, rfl, rfl, h1, h2, h3, q⟩ := h
  simp only
  rw [if_pos ⟨h1, h2, h3⟩]
  exact q
theorem wo_add {a b : CE} (h : WE (ev cal b0 a ρ) fun x ρ1 => WE (ev cal b0 b ρ1) fun y ρ2 => ∃ xs ys, x = .list xs ∧ y = .list ys ∧ xs.length + ys.length ≤ 100000 ∧ QA (xs ++ ys) ρ2) : WE (evOwn cal b0 (.bin .Add a b) ρ) QA := by
  simp only [evOwn]
  refine WE.bind (h.mono fun x ρ1 h => WE.bind (h.mono fun y ρ2 h => ?_))
  obtain ⟨xs, ys, rfl, rfl, h1, q⟩ := h
  simp only
  rw [if_pos (show xs.length + ys.length ≤ lim from h1)]
  exact q
theorem wo_list {a : CE} (h : WE (ev cal b0 a ρ) fun x ρ1 => ∃ xs, (x = .list xs ∨ x = .tuple xs) ∧ QA xs ρ1) : WE (evOwn cal b0 (.blt .list [a]) ρ) QA := by
  simp only [evOwn]
  refine WE.bind (h.mono fun x ρ1 h => ?_)
  obtain ⟨xs, rfl | rfl, q⟩ := h <;> exact q
theorem wo_srt {a : CE} (h : WE (ev cal b0 a ρ) fun x ρ1 => ∃ xs, sortedD [x] = some (.list xs) ∧ QA xs ρ1) : WE (evOwn cal b0 (.blt .sorted [a]) ρ) QA := by
  simp only [evOwn]
  refine WE.bind (h.mono fun x ρ1 h => ?_)
  obtain ⟨xs, e, q⟩ := h
  rw [e]
  exact q
theorem wo_ite {c a b : CE} (h : WE (ev cal b0 c ρ) fun x ρ1 => ∃ k, truD x = some k ∧ (k = true → WE (evOwn cal b0 a ρ1) QA) ∧ (k = false → WE (evOwn cal b0 b ρ1) QA)) : WE (evOwn cal b0 (.ite c a b) ρ) QA := by
  simp only [evOwn]
  refine WE.bind (r := evT cal b0 c ρ) ?_
  refine evT_we (h.mono fun x ρ1 h => ?_)
  obtain ⟨k, e, h1, h2⟩ := h
  refine ⟨k, e, ?_⟩
  cases k with
  | true => exact h1 rfl
  | false => exact h2 rfl
theorem we_gcd {a b : CE} (h : WE (ev cal b0 a ρ) fun x ρ1 => WE (ev cal b0 b ρ1) fun y ρ2 => ∃ d, gcdD x y = some d ∧ Q d ρ2) : WE (ev cal b0 (.gcd a b) ρ) Q := by
  simp only [ev]
  exact WE.bind (h.mono fun x ρ1 h => WE.bind (h.mono fun y ρ2 h => ofO_we h))
theorem wo_call {f : Str} {perm : List Nat} {args : List CE} (h : WE (evA cal b0 args ρ) fun ds ρ1 => ∃ es, permD perm ds = some es ∧ ∃ xs, cal f es = .ow xs none ∧ QA xs ρ1) : WE (evOwn cal b0 (.call f perm args) ρ) QA := by
  simp only [evOwn]
  refine WE.bind (h.mono fun ds ρ1 h => ?_)
  obtain ⟨es, e, xs, e2, q⟩ := h
  rw [e]
  simp only
  rw [e2]
  exact q
theorem wo_cio {f : Str} {i : Nat} {args : List CE} {d0 : D} (hi : ρ[i]? = some (some (d0, true))) (h : WE (evA cal b0 args ρ) fun ds ρ1 => ∃ es, ρ1[i]? = some (some (.list es, true)) ∧ ∃ xs x, cal f (.list es :: ds) = .ow xs (some x) ∧ QA xs (ρ1.set i (some (x, true)))) : WE (evOwn cal b0 (.cio f i args) ρ) QA := by
  simp only [evOwn, hi]
  refine WE.bind (h.mono fun ds ρ1 h => ?_)
  obtain ⟨d, e, xs, x, e2, q⟩ := h
  rw [e]
  simp only
  rw [e2]
  exact q
end
section
variable {cal : Cal} {b0 : Bool} {ρ : Ro} {Q : SR → Prop} {ss : List CS}
theorem st_ws {α : Type} {r : Rs α} {f : α → Ro → SR} (h : WE r fun a ρ => Q (f a ρ)) : Q (r.st f) := by
  cases r with
  | ok a ρ => exact h
  | er c f ρ => exact h.elim
  | bad => exact h.elim
theorem ws_seq {s : CS} (h : WS (evS cal b0 s ρ) (sq (fun ρ' => WS (evB cal b0 ss ρ') Q) Q)) : WS (evB cal b0 (s :: ss) ρ) Q := by
  unfold WS at *
  simp only [evB]
  cases hr : evS cal b0 s ρ <;> rw [hr] at h <;> exact h
theorem ws_nil (h : Q (.nx ρ)) : WS (evB cal b0 [] ρ) Q := by unfold WS; simp only [evB]; exact h
theorem ws_nilq {K : Ro → Prop} (h : K ρ) : WS (evB cal b0 [] ρ) (sq K Q) := ws_nil h
theorem ws_nill {N B : Ro → Prop} (h : N ρ) : WS (evB cal b0 [] ρ) (lq N B Q) := ws_nil h
theorem ws_asg {i : Nat} {e : CE} (h0 : (b0 && i == 0) = false) (h : WE (ev cal b0 e ρ) fun d ρ1 => WS (evB cal b0 ss (ρ1.set i (some (d, false)))) Q) : WS (evB cal b0 (.asg i e :: ss) ρ) Q := by
  refine ws_seq ?_
  unfold WS at *
  simp only [evS]
  refine st_ws (Q := sq _ Q) (h.mono fun d ρ1 h => ?_)
  unfold set0 ofS
  rw [h0]
  exact h
theorem ws_own {i : Nat} {e : CE} (h0 : (b0 && i == 0) = false) (h : WE (evOwn cal b0 e ρ) fun ds ρ1 => WS (evB cal b0 ss (ρ1.set i (some (.list ds, true)))) Q) : WS (evB cal b0 (.own i e :: ss) ρ) Q := by
  refine ws_seq ?_
  unfold WS at *
  simp only [evS]
  refine st_ws (Q := sq _ Q) (h.mono fun d ρ1 h => ?_)
  unfold setOwn ofS
  rw [h0]
  exact h
theorem ws_par {is : List Nat} {es : List (Bool × CE)} (h : WE (evPa cal b0 es ρ) fun ds ρ1 => ∃ ρ2, setPa b0 is ds ρ1 = some ρ2 ∧ WS (evB cal b0 ss ρ2) Q) : WS (evB cal b0 (.par is es :: ss) ρ) Q := by
  refine ws_seq ?_
  unfold WS at *
  simp only [evS]
  refine st_ws (Q := sq _ Q) (h.mono fun d ρ1 h => ?_)
  obtain ⟨ρ2, e, q⟩ := h
  rw [e]
  exact q
theorem wp_nil {QP : List (D × Bool) → Ro → Prop} (h : QP [] ρ) : WE (evPa cal b0 [] ρ) QP := by simp only [evPa]; exact h
theorem wp_own {e : CE} {es : List (Bool × CE)} {QP : List (D × Bool) → Ro → Prop} (h : WE (evOwn cal b0 e ρ) fun ds ρ1 => WE (evPa cal b0 es ρ1) fun r ρ2 => QP ((.list ds, true) :: r) ρ2) : WE (evPa cal b0 ((true, e) :: es) ρ) QP := by
  simp only [evPa]
  exact WE.bind (h.mono fun ds ρ1 h => WE.bind (h.mono fun ds ρ1 h => h))
theorem wp_ev {e : CE} {es : List (Bool × CE)} {QP : List (D × Bool) → Ro → Prop} (h : WE (ev cal b0 e ρ) fun d ρ1 => WE (evPa cal b0 es ρ1) fun r ρ2 => QP ((d, false) :: r) ρ2) : WE (evPa cal b0 ((false, e) :: es) ρ) QP := by
  simp only [evPa]
  exact WE.bind (h.mono fun ds ρ1 h => WE.bind (h.mono fun ds ρ1 h => h))
theorem ws_aug {op : Operator} {i : Nat} {e : CE} {x : Int} (hi : ρ[i]? = some (some (.int x, false))) (h0 : (b0 && i == 0) = false) (h : WE (ev cal b0 e ρ) fun y ρ1 => ∃ d, augD op (.int x) y = some d ∧ WS (evB cal b0 ss (ρ1.set i (some (d, false)))) Q) : WS (evB cal b0 (.aug op i e :: ss) ρ) Q := by
  refine ws_seq ?_
  unfold WS at *
  simp only [evS, hi]
  refine st_ws (Q := sq _ Q) (h.mono fun d ρ1 h => ?_)
  obtain ⟨d', e, q⟩ := h
  rw [e]
  unfold set0 ofS
  rw [h0]
  exact q
theorem ws_unp {is : List Nat} {e : CE} (h : WE (ev cal b0 e ρ) fun d ρ1 => ∃ ρ2, setTg b0 is false d ρ1 = some ρ2 ∧ WS (evB cal b0 ss ρ2) Q) : WS (evB cal b0 (.unp is e :: ss) ρ) Q := by
  refine ws_seq ?_
  unfold WS at *
  simp only [evS]
  refine st_ws (Q := sq _ Q) (h.mono fun d ρ1 h => ?_)
  obtain ⟨ρ2, e, q⟩ := h
  rw [e]
  exact q
theorem ws_sub {i : Nat} {ix e : CE} {d0 : D} (hi : ρ[i]? = some (some (d0, true))) (h : WE (ev cal b0 e ρ) fun d ρ1 => WE (ev cal b0 ix ρ1) fun k ρ2 => ∃ ds j m, ρ2[i]? = some (some (.list ds, true)) ∧ k = .int j ∧ ixN ds.length j = some m ∧ WS (evB cal b0 ss (ρ2.set i (some (.list (ds.set m d), true)))) Q) : WS (evB cal b0 (.sub i ix e :: ss) ρ) Q := by
  refine ws_seq ?_
  unfold WS at *
  simp only [evS, hi]
  refine st_ws (Q := sq _ Q) (h.mono fun d ρ1 h => st_ws (Q := sq _ Q) (h.mono fun k ρ2 h => ?_))
  obtain ⟨ds, j, m, e1, rfl, e2, q⟩ := h
  rw [e1]
  simp only
  rw [e2]
  exact q
theorem ws_app {i : Nat} {e : CE} {d0 : List D} (hi : ρ[i]? = some (some (.list d0, true))) (h : WE (ev cal b0 e ρ) fun d ρ1 => ∃ ds, ρ1[i]? = some (some (.list ds, true)) ∧ ds.length < 100000 ∧ WS (evB cal b0 ss (ρ1.set i (some (.list (ds ++ [d]), true)))) Q) : WS (evB cal b0 (.app i e :: ss) ρ) Q := by
  refine ws_seq ?_
  unfold WS at *
  simp only [evS, hi]
  refine st_ws (Q := sq _ Q) (h.mono fun d ρ1 h => ?_)
  obtain ⟨ds, e1, e2, q⟩ := h
  rw [e1]
  simp only
  rw [if_pos (show ds.length < lim from e2)]
  exact q
theorem ws_exp {e : CE} (h : WE (ev cal b0 e ρ) fun _ ρ1 => WS (evB cal b0 ss ρ1) Q) : WS (evB cal b0 (.exp e :: ss) ρ) Q := by
  refine ws_seq ?_
  unfold WS at *
  simp only [evS]
  exact st_ws (Q := sq _ Q) (h.mono fun d ρ1 h => h)
theorem ws_pas (h : WS (evB cal b0 ss ρ) Q) : WS (evB cal b0 (.pas :: ss) ρ) Q := by
  refine ws_seq ?_
  unfold WS at *
  simp only [evS]
  exact h
theorem ws_iff {c : CE} {a b : List CS} (h : WE (ev cal b0 c ρ) fun x ρ1 => ∃ k, truD x = some k ∧ (k = true → WS (evB cal b0 a ρ1) (sq (fun ρ' => WS (evB cal b0 ss ρ') Q) Q)) ∧ (k = false → WS (evB cal b0 b ρ1) (sq (fun ρ' => WS (evB cal b0 ss ρ') Q) Q))) : WS (evB cal b0 (.iff c a b :: ss) ρ) Q := by
  refine ws_seq ?_
  unfold WS at *
  simp only [evS]
  refine st_ws (Q := sq _ Q) (evT_we (h.mono fun x ρ1 h => ?_))
  obtain ⟨k, e, h1, h2⟩ := h
  refine ⟨k, e, ?_⟩
  cases k with
  | true => exact h1 rfl
  | false => exact h2 rfl
theorem ws_ret {e : CE} (h : WE (ev cal b0 e ρ) fun d ρ1 => Q (.rt d ρ1)) : WS (evB cal b0 (.ret e :: ss) ρ) Q := by
  refine ws_seq ?_
  unfold WS
  simp only [evS]
  exact st_ws (Q := sq _ Q) (h.mono fun d ρ1 h => h)
theorem ws_retO {e : CE} (h : WE (evOwn cal b0 e ρ) fun ds ρ1 => Q (.ro ds ρ1)) : WS (evB cal b0 (.retO e :: ss) ρ) Q := by
  refine ws_seq ?_
  unfold WS
  simp only [evS]
  exact st_ws (Q := sq _ Q) (h.mono fun d ρ1 h => h)
theorem ws_retN (h : Q (.rt .none ρ)) : WS (evB cal b0 (.retN :: ss) ρ) Q := by
  refine ws_seq ?_
  unfold WS
  simp only [evS]
  exact h
theorem ws_retV {i : Nat} {d : D} (hi : ρ[i]? = some (some (d, false))) (h : Q (.rt d ρ)) : WS (evB cal b0 (.retV i :: ss) ρ) Q := by
  refine ws_seq ?_
  unfold WS
  simp only [evS, hi]
  exact h
theorem ws_retVO {i : Nat} {ds : List D} (hi : ρ[i]? = some (some (.list ds, true))) (h0 : (b0 && i == 0) = false) (h : Q (.ro ds (ρ.set i none))) : WS (evB cal b0 (.retV i :: ss) ρ) Q := by
  refine ws_seq ?_
  unfold WS
  simp only [evS, hi, h0]
  exact h
theorem ws_brk {N B : Ro → Prop} (h : B ρ) : WS (evB cal b0 (.brk :: ss) ρ) (lq N B Q) := by
  refine ws_seq ?_
  unfold WS
  simp only [evS]
  exact h
theorem ws_ctn {N B : Ro → Prop} (h : N ρ) : WS (evB cal b0 (.ctn :: ss) ρ) (lq N B Q) := by
  refine ws_seq ?_
  unfold WS
  simp only [evS]
  exact h
theorem ws_brkq {K : Ro → Prop} {N B : Ro → Prop} (h : B ρ) : WS (evB cal b0 (.brk :: ss) ρ) (sq K (lq N B Q)) := by
  refine ws_seq ?_
  unfold WS
  simp only [evS]
  exact h
theorem forL_ws {st : D → Ro → Option Ro} {body : Ro → SR} {B : Ro → Prop} (I : Nat → Ro → Prop) : ∀ {xs : List D} {k : Nat} {ρ : Ro}, (∀ i x ρ, xs[i]? = some x → I (k + i) ρ → ∃ ρ1, st x ρ = some ρ1 ∧ lq (I (k + i + 1)) B Q (body ρ1)) → (∀ ρ, I (k + xs.length) ρ → Q (.nx ρ)) → (∀ ρ, B ρ → Q (.nx ρ)) → I k ρ → Q (forL st body xs ρ)
  | [], k, ρ, _, h1, _, h0 => h1 ρ h0
  | x :: xs, k, ρ, h, h1, hB, h0 => by
    obtain ⟨ρ1, e1, h3⟩ := h 0 x ρ rfl h0
    unfold forL
    rw [e1]
    simp only
    have go : ∀ ρ2, I (k + 1) ρ2 → Q (forL st body xs ρ2) := fun ρ2 h2 => forL_ws I (xs := xs) (k := k + 1) (ρ := ρ2) (fun i y σ hy hi => by
      have := h (i + 1) y σ (by simpa using hy) (by rw [show k + (i + 1) = k + 1 + i by omega]; exact hi)
      rwa [show k + (i + 1) + 1 = k + 1 + i + 1 by omega] at this) (fun σ hσ => h1 σ (by rw [List.length_cons, show k + (xs.length + 1) = k + 1 + xs.length by omega]; exact hσ)) hB h2
    cases hr : body ρ1 <;> rw [hr] at h3
    case nx ρ2 => exact go ρ2 h3
    case ct ρ2 => exact go ρ2 h3
    case bk ρ2 => exact hB _ h3
    all_goals exact h3
/-- a for, by what holds ahead of each turn -/
theorem ws_fr {kind : Nat} {its : List CE} {tg : List Nat} {one : Bool} {body : List CS} (I : Nat → Ro → Prop)
    (h : WE (evA cal b0 its ρ) fun ds ρ1 => ∃ xs, itemsD kind ds = some xs ∧ I 0 ρ1 ∧ (∀ k x ρ, xs[k]? = some x → I k ρ → ∃ ρ2, setTg b0 tg one x ρ = some ρ2 ∧ WS (evB cal b0 body ρ2) (lq (I (k + 1)) (fun ρ' => WS (evB cal b0 ss ρ') Q) Q)) ∧ ∀ ρ, I xs.length ρ → WS (evB cal b0 ss ρ) Q) : WS (evB cal b0 (.fr kind its tg one body :: ss) ρ) Q := by
  obtain ⟨ds, ρ1, e1, xs, e2, h0, h1, h2⟩ := h.get
  refine ws_seq ?_
  unfold WS
  rw [evS_fr e1 e2]
  refine forL_ws (Q := sq _ Q) (B := fun ρ' => WS (evB cal b0 ss ρ') Q) I (fun i x σ hx hI => ?_) (fun σ hσ => ?_) (fun σ hσ => hσ) h0
  · rw [Nat.zero_add] at hI ⊢
    obtain ⟨ρ2, e3, h3⟩ := h1 i x σ hx hI
    refine ⟨ρ2, e3, ?_⟩
    unfold WS at h3
    cases hr : evB cal b0 body ρ2 <;> rw [hr] at h3 <;> exact h3
  · rw [Nat.zero_add] at hσ
    exact h2 σ hσ
theorem whL_ws {tst : Ro → Rs Bool} {body : Ro → SR} {B : Ro → Prop} (I : Nat → Ro → Prop) (h : ∀ m ρ, I m ρ → WE (tst ρ) fun b ρ1 => (b = true → ∃ m', m = m' + 1 ∧ lq (I m') B Q (body ρ1)) ∧ (b = false → B ρ1)) (hB : ∀ ρ, B ρ → Q (.nx ρ)) : ∀ (n m : Nat) (ρ : Ro), m < n → I m ρ → Q (whL tst body n ρ)
  | 0, m, ρ, hm, _ => by omega
  | n + 1, m, ρ, hm, h0 => by
    unfold whL
    refine st_ws (Q := Q) ((h m ρ h0).mono fun b ρ1 h3 => ?_)
    cases b with
    | true =>
      rw [if_pos rfl]
      obtain ⟨m', rfl, h4⟩ := h3.1 rfl
      clear h3
      cases hr : body ρ1 <;> rw [hr] at h4
      case nx ρ2 => exact whL_ws I h hB n m' ρ2 (by omega) h4
      case ct ρ2 => exact whL_ws I h hB n m' ρ2 (by omega) h4
      case bk ρ2 => exact hB _ h4
      all_goals exact h4
    | false =>
      rw [if_neg Bool.false_ne_true]
      exact hB _ (h3.2 rfl)
/-- a while: at most m turns are left -/
theorem ws_wh {c : CE} {body : List CS} (m : Nat) (hm : m < 100000) (I : Nat → Ro → Prop) (h0 : I m ρ)
    (h : ∀ m ρ, I m ρ → WE (ev cal b0 c ρ) fun x ρ1 => ∃ k, truD x = some k ∧ (k = true → ∃ m', m = m' + 1 ∧ WS (evB cal b0 body ρ1) (lq (I m') (fun ρ' => WS (evB cal b0 ss ρ') Q) Q)) ∧ (k = false → WS (evB cal b0 ss ρ1) Q)) : WS (evB cal b0 (.wh c body :: ss) ρ) Q := by
  refine ws_seq ?_
  unfold WS
  simp only [evS]
  refine whL_ws (Q := sq _ Q) (B := fun ρ' => WS (evB cal b0 ss ρ') Q) I (fun m ρ hI => evT_we ((h m ρ hI).mono fun x ρ1 h => ?_)) (fun ρ hρ => hρ) 100000 m ρ hm h0
  obtain ⟨k, e, h1, h2⟩ := h
  refine ⟨k, e, fun z => ?_, h2⟩
  obtain ⟨m', rfl, h3⟩ := h1 z
  refine ⟨m', rfl, ?_⟩
  unfold WS at h3
  cases hr : evB cal b0 body ρ1 <;> rw [hr] at h3 <;> exact h3
end
section
variable {tbl : List (Str × De)} {x : Str} {nN nps n : Nat} {c : List CS} {ds : List D} {d : D} {P : CR → Prop}
theorem wc_run (h : Lk tbl x nN nps false c) (hl : ds.length = nps) (q : WS (evB (calN tbl n) false c (oldR ds ++ nons (nN - ds.length))) fun r => P (outR r)) : P (calN tbl (n + 1) x ds) := by
  rw [lk_run h hl]; exact q
theorem wc_runL (h : Lk tbl x nN nps true c) (hl : ds.length + 1 = nps) (q : WS (evB (calN tbl n) true c (some (d, true) :: (oldR ds ++ nons (nN - (ds.length + 1))))) fun r => P (outL r)) : P (calN tbl (n + 1) x (d :: ds)) := by
  rw [lk_runL h hl]; exact q
end
/-! operators on ints -/
section
variable {Q : D → Prop} {R : Bool → Prop} {i j : Int}
theorem ex_add (q : Q (.int (i + j))) : ∃ d, opD .Add (.int i) (.int j) = some d ∧ Q d := ⟨_, rfl, q⟩
theorem ex_sub (q : Q (.int (i - j))) : ∃ d, opD .Sub (.int i) (.int j) = some d ∧ Q d := ⟨_, rfl, q⟩
theorem ex_mul (h : (smG i || smG j || (bigG i && bigG j)) = true) (q : Q (.int (i * j))) : ∃ d, opD .Mult (.int i) (.int j) = some d ∧ Q d := ⟨_, by rw [o_mul, if_pos h], q⟩
theorem ex_mod (h : 0 < j) (q : Q (.int (i % j))) : ∃ d, opD .Mod (.int i) (.int j) = some d ∧ Q d := ⟨_, opD_mod h, q⟩
theorem ex_fdiv (h : 0 < j) (h2 : bigG j = true) (q : Q (.int (i / j))) : ∃ d, opD .FloorDiv (.int i) (.int j) = some d ∧ Q d := ⟨_, opD_fdiv h (of_decide_eq_true h2), q⟩
theorem ex_pow {n : Nat} (hn : n ≤ 100) (h : bigG i = true) (q : Q (.int (i ^ n))) : ∃ d, opD .Pow (.int i) (.int n) = some d ∧ Q d := ⟨_, opD_pow hn (of_decide_eq_true h), q⟩
theorem ex_lt (q : R (decide (i < j))) : ∃ d, cmpD .Lt (.int i) (.int j) = some d ∧ R d := ⟨_, rfl, q⟩
theorem ex_le (q : R (decide (i ≤ j))) : ∃ d, cmpD .LtE (.int i) (.int j) = some d ∧ R d := ⟨_, rfl, q⟩
theorem ex_gt (q : R (decide (j < i))) : ∃ d, cmpD .Gt (.int i) (.int j) = some d ∧ R d := ⟨_, rfl, q⟩
theorem ex_ge (q : R (decide (j ≤ i))) : ∃ d, cmpD .GtE (.int i) (.int j) = some d ∧ R d := ⟨_, rfl, q⟩
theorem ex_eq (q : R (decide (i = j))) : ∃ d, cmpD .Eq (.int i) (.int j) = some d ∧ R d := ⟨_, c_eq i j, q⟩
theorem ex_ne (q : R (!decide (i = j))) : ∃ d, cmpD .NotEq (.int i) (.int j) = some d ∧ R d := ⟨_, c_ne i j, q⟩
theorem c_eqS (u v : Str) : cmpD .Eq (.str u) (.str v) = some (decide (u = v)) := by
  show eqD (.str u) (.str v) = _
  unfold eqD
  rw [if_pos (by rfl)]
  simp only [PyData.eqv]
  congr 1
theorem ex_eqS {u v : Str} (q : R (decide (u = v))) : ∃ d, cmpD .Eq (.str u) (.str v) = some d ∧ R d := ⟨_, c_eqS u v, q⟩
theorem ex_neS {u v : Str} (q : R (!decide (u = v))) : ∃ d, cmpD .NotEq (.str u) (.str v) = some d ∧ R d := ⟨_, by
  show (cmpD .Eq (.str u) (.str v)).map (!·) = _
  rw [c_eqS]; rfl, q⟩
theorem ex_repr {d : D} (h1 : d.showable = true) (h2 : d.hasDict = false) (h3 : d.depth ≤ 50) (h4 : wD d ≤ 100000) (q : Q (.str d.shown)) : ∃ e, bltD .repr [d] = some e ∧ Q e := ⟨_, repr_ok h1 h2 h3 h4, q⟩
theorem ex_reprI (h : Bd 1900 i) (q : Q (.str (PyData.int i).shown)) : ∃ e, bltD .repr [.int i] = some e ∧ Q e := ⟨_, repr_int h, q⟩
theorem ex_reprB {b : Bool} (q : Q (.str (PyData.bool b).shown)) : ∃ e, bltD .repr [.bool b] = some e ∧ Q e := ⟨_, repr_bool b, q⟩
theorem ex_augA {Q : D → Prop} (q : Q (.int (i + j))) : ∃ d, augD .Add (.int i) (.int j) = some d ∧ Q d := ⟨_, rfl, q⟩
theorem ex_augS {Q : D → Prop} (q : Q (.int (i - j))) : ∃ d, augD .Sub (.int i) (.int j) = some d ∧ Q d := ⟨_, rfl, q⟩
theorem ex_idx {xs : List D} (P : D → Prop) (h0 : 0 ≤ i) (h1 : i < (xs.length : Int)) (hP : ∀ x ∈ xs, P x) (q : ∀ x, P x → Q x) : ∃ d, idxD (.list xs) (.int i) = some d ∧ Q d := by
  obtain ⟨x, hx, e⟩ := idx_mem h0 h1
  exact ⟨x, e, q x (hP x hx)⟩
theorem Bd.lit {k : Nat} {i : Int} (h : decide (i.natAbs < 2 ^ k) = true) : Bd k i := of_decide_eq_true h
theorem Bd.ltr {k : Nat} {r m : Int} (h : Bd k m) (h0 : 0 ≤ r) (h1 : r < m) : Bd k r := h.between h0 (by omega)
theorem mulS1 (h : smG i = true) : (smG i || smG j || (bigG i && bigG j)) = true := by rw [h]; rfl
theorem mulS2 (h : smG j = true) : (smG i || smG j || (bigG i && bigG j)) = true := by rw [h]; simp
theorem mulB {k m : Nat} (h : Bd k i) (g : Bd m j) (hk : k ≤ 4096) (hm : m ≤ 4096) : (smG i || smG j || (bigG i && bigG j)) = true := big2 (h.big hk) (g.big hm)
theorem dec_pos {p : Prop} [Decidable p] (h : p) {A B : Prop} (a : A) : (decide p = true → A) ∧ (decide p = false → B) := ⟨fun _ => a, fun z => absurd h (of_decide_eq_false z)⟩
theorem dec_neg {p : Prop} [Decidable p] (h : ¬ p) {A B : Prop} (b : B) : (decide p = true → A) ∧ (decide p = false → B) := ⟨fun z => absurd (of_decide_eq_true z) h, fun _ => b⟩
theorem dec_both {p : Prop} [Decidable p] {A B : Prop} (a : p → A) (b : ¬ p → B) : (decide p = true → A) ∧ (decide p = false → B) := ⟨fun z => a (of_decide_eq_true z), fun z => b (of_decide_eq_false z)⟩
theorem ndec_pos {p : Prop} [Decidable p] (h : p) {A B : Prop} (b : B) : ((!decide p) = true → A) ∧ ((!decide p) = false → B) := ⟨fun z => by simp [h] at z, fun _ => b⟩
theorem ndec_neg {p : Prop} [Decidable p] (h : ¬ p) {A B : Prop} (a : A) : ((!decide p) = true → A) ∧ ((!decide p) = false → B) := ⟨fun _ => a, fun z => by simp [h] at z⟩
theorem ndec_both {p : Prop} [Decidable p] {A B : Prop} (a : ¬ p → A) (b : p → B) : ((!decide p) = true → A) ∧ ((!decide p) = false → B) := ⟨fun z => a (by simpa using z), fun z => b (by simpa using z)⟩
theorem tf_pos {A B : Prop} (a : A) : (true = true → A) ∧ (true = false → B) := ⟨fun _ => a, fun z => nomatch z⟩
theorem tf_neg {A B : Prop} (b : B) : (false = true → A) ∧ (false = false → B) := ⟨fun z => (nomatch z), fun _ => b⟩
end
end Ev
namespace Ev
open PySem PySem.Spec PyProof.Rows L2
section
variable {cal : Cal} {b0 : Bool} {ρ ρ' : Ro} {i : Nat} {v : Option (D × Bool)}
theorem wn_s {ss : List CS} {Q : SR → Prop} (e : List.set ρ i v = ρ') (h : WS (evB cal b0 ss ρ') Q) : WS (evB cal b0 ss (List.set ρ i v)) Q := by rw [e]; exact h
theorem wn_e {c : CE} {Q : D → Ro → Prop} (e : List.set ρ i v = ρ') (h : WE (ev cal b0 c ρ') Q) : WE (ev cal b0 c (List.set ρ i v)) Q := by rw [e]; exact h
theorem wn_a {c : List CE} {Q : List D → Ro → Prop} (e : List.set ρ i v = ρ') (h : WE (evA cal b0 c ρ') Q) : WE (evA cal b0 c (List.set ρ i v)) Q := by rw [e]; exact h
theorem wn_p {c : List (Bool × CE)} {Q : List (D × Bool) → Ro → Prop} (e : List.set ρ i v = ρ') (h : WE (evPa cal b0 c ρ') Q) : WE (evPa cal b0 c (List.set ρ i v)) Q := by rw [e]; exact h
theorem wn_o {c : CE} {Q : List D → Ro → Prop} (e : List.set ρ i v = ρ') (h : WE (evOwn cal b0 c ρ') Q) : WE (evOwn cal b0 c (List.set ρ i v)) Q := by rw [e]; exact h
theorem set_z {x : Option (D × Bool)} {xs : Ro} : List.set (x :: xs) 0 v = v :: xs := rfl
theorem set_s {x : Option (D × Bool)} {xs : Ro} {n : Nat} {ys : Ro} (h : List.set xs n v = ys) : List.set (x :: xs) (n + 1) v = x :: ys := by rw [List.set_cons_succ, h]
theorem xp1 {a : D} {P : List D → Prop} (q : P [a]) : ∃ es, permD [0] [a] = some es ∧ P es := ⟨_, rfl, q⟩
theorem xp0 {P : List D → Prop} (q : P []) : ∃ es, permD [] [] = some es ∧ P es := ⟨_, rfl, q⟩
theorem xp2 {a b : D} {P : List D → Prop} (q : P [a, b]) : ∃ es, permD [0, 1] [a, b] = some es ∧ P es := ⟨_, rfl, q⟩
theorem xp21 {a b : D} {P : List D → Prop} (q : P [b, a]) : ∃ es, permD [1, 0] [a, b] = some es ∧ P es := ⟨_, rfl, q⟩
theorem xp3 {a b c : D} {P : List D → Prop} (q : P [a, b, c]) : ∃ es, permD [0, 1, 2] [a, b, c] = some es ∧ P es := ⟨_, rfl, q⟩
theorem xp321 {a b c : D} {P : List D → Prop} (q : P [c, b, a]) : ∃ es, permD [2, 1, 0] [a, b, c] = some es ∧ P es := ⟨_, rfl, q⟩
theorem xp4 {a b c d : D} {P : List D → Prop} (q : P [a, b, c, d]) : ∃ es, permD [0, 1, 2, 3] [a, b, c, d] = some es ∧ P es := ⟨_, rfl, q⟩
theorem xp4321 {a b c d : D} {P : List D → Prop} (q : P [d, c, b, a]) : ∃ es, permD [3, 2, 1, 0] [a, b, c, d] = some es ∧ P es := ⟨_, rfl, q⟩
theorem xp5 {a b c d e : D} {P : List D → Prop} (q : P [a, b, c, d, e]) : ∃ es, permD [0, 1, 2, 3, 4] [a, b, c, d, e] = some es ∧ P es := ⟨_, rfl, q⟩
theorem xp54321 {a b c d e : D} {P : List D → Prop} (q : P [e, d, c, b, a]) : ∃ es, permD [4, 3, 2, 1, 0] [a, b, c, d, e] = some es ∧ P es := ⟨_, rfl, q⟩
theorem xp6 {a b c d e f : D} {P : List D → Prop} (q : P [a, b, c, d, e, f]) : ∃ es, permD [0, 1, 2, 3, 4, 5] [a, b, c, d, e, f] = some es ∧ P es := ⟨_, rfl, q⟩
end
end Ev
namespace Ev
set_option exponentiation.threshold 5000
open PySem PySem.Spec PyProof.Rows L2
section
variable {Q : D → Prop} {i : Int}
theorem xt2 (q : Q (.int 100)) : ∃ d, opD .Pow (.int 10) (.int 2) = some d ∧ Q d := ⟨_, opD_pow (n := 2) (by decide) (by decide +kernel), q⟩
theorem xt3 (q : Q (.int 1000)) : ∃ d, opD .Pow (.int 10) (.int 3) = some d ∧ Q d := ⟨_, opD_pow (n := 3) (by decide) (by decide +kernel), q⟩
theorem xt4 (q : Q (.int 10000)) : ∃ d, opD .Pow (.int 10) (.int 4) = some d ∧ Q d := ⟨_, opD_pow (n := 4) (by decide) (by decide +kernel), q⟩
theorem xt5 (q : Q (.int 100000)) : ∃ d, opD .Pow (.int 10) (.int 5) = some d ∧ Q d := ⟨_, opD_pow (n := 5) (by decide) (by decide +kernel), q⟩
theorem xt6 (q : Q (.int 1000000)) : ∃ d, opD .Pow (.int 10) (.int 6) = some d ∧ Q d := ⟨_, opD_pow (n := 6) (by decide) (by decide +kernel), q⟩
theorem xt7 (q : Q (.int 10000000)) : ∃ d, opD .Pow (.int 10) (.int 7) = some d ∧ Q d := ⟨_, opD_pow (n := 7) (by decide) (by decide +kernel), q⟩
theorem xt8 (q : Q (.int 100000000)) : ∃ d, opD .Pow (.int 10) (.int 8) = some d ∧ Q d := ⟨_, opD_pow (n := 8) (by decide) (by decide +kernel), q⟩
theorem xt9 (q : Q (.int 1000000000)) : ∃ d, opD .Pow (.int 10) (.int 9) = some d ∧ Q d := ⟨_, opD_pow (n := 9) (by decide) (by decide +kernel), q⟩
theorem xt10 (q : Q (.int 10000000000)) : ∃ d, opD .Pow (.int 10) (.int 10) = some d ∧ Q d := ⟨_, opD_pow (n := 10) (by decide) (by decide +kernel), q⟩
theorem xt12 (q : Q (.int 1000000000000)) : ∃ d, opD .Pow (.int 10) (.int 12) = some d ∧ Q d := ⟨_, opD_pow (n := 12) (by decide) (by decide +kernel), q⟩
theorem xt16 (q : Q (.int 10000000000000000)) : ∃ d, opD .Pow (.int 10) (.int 16) = some d ∧ Q d := ⟨_, opD_pow (n := 16) (by decide) (by decide +kernel), q⟩
theorem xt17 (q : Q (.int 100000000000000000)) : ∃ d, opD .Pow (.int 10) (.int 17) = some d ∧ Q d := ⟨_, opD_pow (n := 17) (by decide) (by decide +kernel), q⟩
theorem xt18 (q : Q (.int 1000000000000000000)) : ∃ d, opD .Pow (.int 10) (.int 18) = some d ∧ Q d := ⟨_, opD_pow (n := 18) (by decide) (by decide +kernel), q⟩
theorem xt19 (q : Q (.int 10000000000000000000)) : ∃ d, opD .Pow (.int 10) (.int 19) = some d ∧ Q d := ⟨_, opD_pow (n := 19) (by decide) (by decide +kernel), q⟩
theorem xt20 (q : Q (.int 100000000000000000000)) : ∃ d, opD .Pow (.int 10) (.int 20) = some d ∧ Q d := ⟨_, opD_pow (n := 20) (by decide) (by decide +kernel), q⟩
theorem xt21 (q : Q (.int 1000000000000000000000)) : ∃ d, opD .Pow (.int 10) (.int 21) = some d ∧ Q d := ⟨_, opD_pow (n := 21) (by decide) (by decide +kernel), q⟩
theorem xt22 (q : Q (.int 10000000000000000000000)) : ∃ d, opD .Pow (.int 10) (.int 22) = some d ∧ Q d := ⟨_, opD_pow (n := 22) (by decide) (by decide +kernel), q⟩
theorem xt23 (q : Q (.int 100000000000000000000000)) : ∃ d, opD .Pow (.int 10) (.int 23) = some d ∧ Q d := ⟨_, opD_pow (n := 23) (by decide) (by decide +kernel), q⟩
theorem xt24 (q : Q (.int 1000000000000000000000000)) : ∃ d, opD .Pow (.int 10) (.int 24) = some d ∧ Q d := ⟨_, opD_pow (n := 24) (by decide) (by decide +kernel), q⟩
theorem xt25 (q : Q (.int 10000000000000000000000000)) : ∃ d, opD .Pow (.int 10) (.int 25) = some d ∧ Q d := ⟨_, opD_pow (n := 25) (by decide) (by decide +kernel), q⟩
theorem xt26 (q : Q (.int 100000000000000000000000000)) : ∃ d, opD .Pow (.int 10) (.int 26) = some d ∧ Q d := ⟨_, opD_pow (n := 26) (by decide) (by decide +kernel), q⟩
theorem xt27 (q : Q (.int 1000000000000000000000000000)) : ∃ d, opD .Pow (.int 10) (.int 27) = some d ∧ Q d := ⟨_, opD_pow (n := 27) (by decide) (by decide +kernel), q⟩
theorem xt28 (q : Q (.int 10000000000000000000000000000)) : ∃ d, opD .Pow (.int 10) (.int 28) = some d ∧ Q d := ⟨_, opD_pow (n := 28) (by decide) (by decide +kernel), q⟩
theorem xt29 (q : Q (.int 100000000000000000000000000000)) : ∃ d, opD .Pow (.int 10) (.int 29) = some d ∧ Q d := ⟨_, opD_pow (n := 29) (by decide) (by decide +kernel), q⟩
theorem xt30 (q : Q (.int 1000000000000000000000000000000)) : ∃ d, opD .Pow (.int 10) (.int 30) = some d ∧ Q d := ⟨_, opD_pow (n := 30) (by decide) (by decide +kernel), q⟩
theorem xt38 (q : Q (.int 100000000000000000000000000000000000000)) : ∃ d, opD .Pow (.int 10) (.int 38) = some d ∧ Q d := ⟨_, opD_pow (n := 38) (by decide) (by decide +kernel), q⟩
theorem xt41 (q : Q (.int 100000000000000000000000000000000000000000)) : ∃ d, opD .Pow (.int 10) (.int 41) = some d ∧ Q d := ⟨_, opD_pow (n := 41) (by decide) (by decide +kernel), q⟩
theorem xt44 (q : Q (.int 100000000000000000000000000000000000000000000)) : ∃ d, opD .Pow (.int 10) (.int 44) = some d ∧ Q d := ⟨_, opD_pow (n := 44) (by decide) (by decide +kernel), q⟩
theorem xt46 (q : Q (.int 10000000000000000000000000000000000000000000000)) : ∃ d, opD .Pow (.int 10) (.int 46) = some d ∧ Q d := ⟨_, opD_pow (n := 46) (by decide) (by decide +kernel), q⟩
theorem xt50 (q : Q (.int 100000000000000000000000000000000000000000000000000)) : ∃ d, opD .Pow (.int 10) (.int 50) = some d ∧ Q d := ⟨_, opD_pow (n := 50) (by decide) (by decide +kernel), q⟩
theorem xt60 (q : Q (.int 1000000000000000000000000000000000000000000000000000000000000)) : ∃ d, opD .Pow (.int 10) (.int 60) = some d ∧ Q d := ⟨_, opD_pow (n := 60) (by decide) (by decide +kernel), q⟩
theorem xq2 (h : bigG i = true) (q : Q (.int (i ^ 2))) : ∃ d, opD .Pow (.int i) (.int 2) = some d ∧ Q d := ⟨_, opD_pow (n := 2) (by decide) (of_decide_eq_true h), q⟩
theorem xq3 (h : bigG i = true) (q : Q (.int (i ^ 3))) : ∃ d, opD .Pow (.int i) (.int 3) = some d ∧ Q d := ⟨_, opD_pow (n := 3) (by decide) (of_decide_eq_true h), q⟩
theorem Bd.pow3 {k : Nat} (h : Bd k i) : Bd (k + k + k) (i ^ 3) := by
  have e : i ^ 3 = i * i * i := by rw [show (3 : Nat) = 0 + 1 + 1 + 1 from rfl, Int.pow_succ, Int.pow_succ, Int.pow_succ, Int.pow_zero, Int.one_mul]
  rw [e]
  exact (h.mul h).mul h
theorem Bd.pow2 {k : Nat} (h : Bd k i) : Bd (k + k) (i ^ 2) := by
  have e : i ^ 2 = i * i := by rw [show (2 : Nat) = 0 + 1 + 1 from rfl, Int.pow_succ, Int.pow_succ, Int.pow_zero, Int.one_mul]
  rw [e]
  exact h.mul h
theorem Bd.modP {k : Nat} {j : Int} (h : Bd k j) (hj : 0 < j) : Bd k (i % j) := h.ltr (Int.emod_nonneg i (by omega)) (Int.emod_lt_of_pos i hj)
end
end Ev
namespace Ev
open PySem PySem.Spec PyProof.Rows L2
section
theorem xo_at {ρ : Ro} {i : Nat} {d : D} {P : D → Prop} (h : ρ[i]? = some (some (d, true))) (q : P d) : ∃ d, ρ[i]? = some (some (d, true)) ∧ P d := ⟨d, h, q⟩
theorem xo_atL {ρ : Ro} {i : Nat} {d : List D} {P : List D → Prop} (h : ρ[i]? = some (some (.list d, true))) (q : P d) : ∃ d, ρ[i]? = some (some (.list d, true)) ∧ P d := ⟨d, h, q⟩
theorem xo_ix {x y d : D} {P : D → Prop} (h : idxD x y = some d) (q : P d) : ∃ e, idxD x y = some e ∧ P e := ⟨d, h, q⟩
theorem xo_tru {b : Bool} {P : Bool → Prop} (q : P b) : ∃ k, truD (.bool b) = some k ∧ P k := ⟨b, rfl, q⟩
theorem xo_bool {b : Bool} {P : Bool → Prop} (q : P b) : ∃ k, PyData.bool b = PyData.bool k ∧ P k := ⟨b, rfl, q⟩
theorem xo_int {b : Int} {P : Int → Prop} (q : P b) : ∃ k, PyData.int b = PyData.int k ∧ P k := ⟨b, rfl, q⟩
theorem xo_tg {b0 : Bool} {is : List Nat} {one : Bool} {d : D} {ρ ρ' : Ro} {P : Ro → Prop} (h : setTg b0 is one d ρ = some ρ') (q : P ρ') : ∃ ρ2, setTg b0 is one d ρ = some ρ2 ∧ P ρ2 := ⟨ρ', h, q⟩
theorem xo_pa {b0 : Bool} {is : List Nat} {ds : List (D × Bool)} {ρ ρ' : Ro} {P : Ro → Prop} (h : setPa b0 is ds ρ = some ρ') (q : P ρ') : ∃ ρ2, setPa b0 is ds ρ = some ρ2 ∧ P ρ2 := ⟨ρ', h, q⟩
theorem xo_sub {ρ : Ro} {i m : Nat} {ds : List D} {j : Int} {P : List D → Nat → Prop} (h : ρ[i]? = some (some (.list ds, true))) (h2 : ixN ds.length j = some m) (q : P ds m) : ∃ ds j' m, ρ[i]? = some (some (.list ds, true)) ∧ PyData.int j = .int j' ∧ ixN ds.length j' = some m ∧ P ds m := ⟨ds, j, m, h, rfl, h2, q⟩
theorem xo_sub0 {ρ : Ro} {i : Nat} {ds : List D} {P : List D → Nat → Prop} (h : ρ[i]? = some (some (.list ds, true))) (h2 : 0 < ds.length) (q : P ds 0) : ∃ ds j' m, ρ[i]? = some (some (.list ds, true)) ∧ PyData.int 0 = .int j' ∧ ixN ds.length j' = some m ∧ P ds m := ⟨ds, 0, 0, h, rfl, by unfold ixN; rw [if_pos (by omega), if_pos (by omega)]; rfl, q⟩
theorem xo_sub1 {ρ : Ro} {i : Nat} {ds : List D} {P : List D → Nat → Prop} (h : ρ[i]? = some (some (.list ds, true))) (h2 : 1 < ds.length) (q : P ds 1) : ∃ ds j' m, ρ[i]? = some (some (.list ds, true)) ∧ PyData.int 1 = .int j' ∧ ixN ds.length j' = some m ∧ P ds m := ⟨ds, 1, 1, h, rfl, by unfold ixN; rw [if_pos (by omega), if_pos (by omega)]; rfl, q⟩
theorem xo_sub2 {ρ : Ro} {i : Nat} {ds : List D} {P : List D → Nat → Prop} (h : ρ[i]? = some (some (.list ds, true))) (h2 : 2 < ds.length) (q : P ds 2) : ∃ ds j' m, ρ[i]? = some (some (.list ds, true)) ∧ PyData.int 2 = .int j' ∧ ixN ds.length j' = some m ∧ P ds m := ⟨ds, 2, 2, h, rfl, by unfold ixN; rw [if_pos (by omega), if_pos (by omega)]; rfl, q⟩
theorem xo_app {ρ : Ro} {i : Nat} {ds : List D} {P : List D → Prop} (h : ρ[i]? = some (some (.list ds, true))) (h2 : ds.length < 100000) (q : P ds) : ∃ ds, ρ[i]? = some (some (.list ds, true)) ∧ ds.length < 100000 ∧ P ds := ⟨ds, h, h2, q⟩
theorem xo_its {k : Nat} {ds xs : List D} {P : List D → Prop} (h : itemsD k ds = some xs) (q : P xs) : ∃ xs, itemsD k ds = some xs ∧ P xs := ⟨xs, h, q⟩
section
variable {P : D → Prop} {i j : Int}
theorem xb_int (q : P (.int i)) : ∃ d, bltD .int [.int i] = some d ∧ P d := ⟨_, rfl, q⟩
theorem xb_max (q : P (.int (if j > i then j else i))) : ∃ d, bltD .max [.int i, .int j] = some d ∧ P d := ⟨_, rfl, q⟩
theorem xb_min (q : P (.int (if j < i then j else i))) : ∃ d, bltD .min [.int i, .int j] = some d ∧ P d := ⟨_, rfl, q⟩
theorem xb_abs (q : P (.int (if i < 0 then -i else i))) : ∃ d, bltD .abs [.int i] = some d ∧ P d := ⟨_, rfl, q⟩
theorem xb_len {xs : List D} (q : P (.int xs.length)) : ∃ d, bltD .len [.list xs] = some d ∧ P d := ⟨_, rfl, q⟩
theorem xb_lenT {xs : List D} (q : P (.int xs.length)) : ∃ d, bltD .len [.tuple xs] = some d ∧ P d := ⟨_, rfl, q⟩
theorem xb_divmod (h : 0 < j) (h2 : bigG j = true) (q : P (.tuple [.int (i / j), .int (i % j)])) : ∃ d, bltD .divmod [.int i, .int j] = some d ∧ P d := ⟨_, divmod_val h h2, q⟩
theorem xn_neg (q : P (.int (-i))) : ∃ d, negD (.int i) = some d ∧ P d := ⟨_, rfl, q⟩
end
theorem xl {ds : List D} {P : Prop} (h : ds.length ≤ 100000) (q : P) : ds.length ≤ 100000 ∧ P := ⟨h, q⟩
theorem ex_cat {xs ys : List D} {Q : D → Prop} (h : xs.length + ys.length ≤ 100000) (q : Q (.list (xs ++ ys))) : ∃ d, opD .Add (.list xs) (.list ys) = some d ∧ Q d := ⟨_, if_pos h, q⟩
theorem xi_int {i : Int} {P : Bool → Prop} (q : P true) : ∃ b, isiD (.int i) "int" = some b ∧ P b := ⟨true, by kernel_rfl, q⟩
theorem xi_bool {i : Int} {P : Bool → Prop} (q : P false) : ∃ b, isiD (.int i) "bool" = some b ∧ P b := ⟨false, by kernel_rfl, q⟩
theorem xl' {ds : List D} {P : Prop} (h : ds.length < 100000) (q : P) : ds.length < 100000 ∧ P := ⟨h, q⟩
theorem x_rr {ρ : Ro} {P : Prop} (q : P) : ρ = ρ ∧ P := ⟨rfl, q⟩
end
end Ev
namespace Ev
open PySem PySem.Spec PyProof.Rows L2
theorem nt_pos {A B : Prop} (b : B) : ((!true) = true → A) ∧ ((!true) = false → B) := ⟨fun z => (nomatch z), fun _ => b⟩
theorem nt_neg {A B : Prop} (a : A) : ((!false) = true → A) ∧ ((!false) = false → B) := ⟨fun _ => a, fun z => (nomatch z)⟩
theorem idx_ns {ns : List Int} {p : Nat} {Q : D → Prop} (h : (p : Int) < (ns.length : Int)) (q : ∀ c : Int, Q (.int c)) : ∃ e, idxD (.list (ns.map PyData.int)) (.int (p : Nat)) = some e ∧ Q e := by
  have hp : p < ns.length := by omega
  exact ⟨.int ns[p], idx_get' (by rw [List.getElem?_map, List.getElem?_eq_getElem hp]; rfl), q _⟩
theorem rng_at' {b : Int} {k : Nat} {x : D} (h : (rngL 0 b)[k]? = some x) : x = .int (k : Nat) ∧ (k : Int) < b := by
  unfold rngL at h
  rw [List.getElem?_map] at h
  cases q : (List.range (b - 0).toNat)[k]? with
  | none => rw [q] at h; cases h
  | some j =>
    rw [q] at h
    obtain ⟨h1, h2⟩ := List.getElem?_eq_some_iff.mp q
    rw [List.getElem_range] at h2
    subst h2
    rw [List.length_range] at h1
    cases h
    exact ⟨by simp, by omega⟩
end Ev

set_option Elab.async false
set_option linter.all false
set_option maxRecDepth 100000
set_option maxHeartbeats 4000000
namespace Ev
set_option exponentiation.threshold 5000
open PySem PySem.Spec PyProof.Rows L2
/-! ## data that can be written out and compared: w its width, k its depth -/
structure Rq (d : D) (w k : Nat) : Prop where
  lay : d.canLay0 = true
  sh : d.showable = true
  nd : d.hasDict = false
  dp : d.depth ≤ k
  wd : wD d ≤ w
theorem Rq.up {d : D} {w k w' k' : Nat} (h : Rq d w k) (hw : w ≤ w') (hk : k ≤ k') : Rq d w' k' := ⟨h.lay, h.sh, h.nd, Nat.le_trans h.dp hk, Nat.le_trans h.wd hw⟩
theorem rq_non : Rq .none 4 0 := ⟨rfl, rfl, rfl, by simp [PyData.depth], by simp [wD]⟩
theorem rq_bool (b : Bool) : Rq (.bool b) 5 0 := ⟨rfl, rfl, rfl, by simp [PyData.depth], by simp [wD]⟩
theorem rq_int {i : Int} {n : Nat} (h : Bd n i) (hn : n ≤ 1900) : Rq (.int i) (n + 3) 0 := by
  by_cases h0 : 0 < n
  · have := log_lt h0 h
    exact ⟨rfl, by simp [PyData.showable]; omega, rfl, by simp [PyData.depth], by simp [wD]; omega⟩
  · obtain rfl : n = 0 := by omega
    have : i = 0 := by unfold Bd at h; omega
    subst this
    exact ⟨rfl, by decide, rfl, by simp [PyData.depth], by simp only [wD]; decide⟩
theorem rq_strL {x : Str} {n : Nat} (h0 : PyData.canLay0 (.str x) = true) (h : (reprText x).length ≤ n) : Rq (.str x) n 0 := ⟨h0, rfl, rfl, by simp [PyData.depth], by simpa [wD] using h⟩
theorem rq_all {w k : Nat} : ∀ {xs : List D}, (∀ x ∈ xs, Rq x w k) → PyData.canLayAll0 xs = true ∧ PyData.showableAll xs = true ∧ PyData.hasDictAll xs = false ∧ PyData.depthAll xs ≤ k ∧ wDs xs ≤ (w + 2) * xs.length
  | [], _ => ⟨rfl, rfl, rfl, by simp [PyData.depthAll], by simp [wDs]⟩
  | x :: xs, h => by
    obtain ⟨a1, a2, a3, a4, a5⟩ := rq_all (xs := xs) fun y hy => h y (List.mem_cons_of_mem _ hy)
    obtain ⟨b1, b2, b3, b4, b5⟩ := h x List.mem_cons_self
    refine ⟨by simp [PyData.canLayAll0, a1, b1], by simp [PyData.showableAll, a2, b2], by simp [PyData.hasDictAll, a3, b3], by simp only [PyData.depthAll]; omega, ?_⟩
    rw [List.length_cons, Nat.mul_succ]
    simp only [wDs]
    omega
theorem rq_list {w k m : Nat} {xs : List D} (h : ∀ x ∈ xs, Rq x w k) (hl : xs.length ≤ m) : Rq (.list xs) ((w + 2) * m + 2) (k + 1) := by
  obtain ⟨a1, a2, a3, a4, a5⟩ := rq_all h
  have := Nat.mul_le_mul_left (w + 2) hl
  exact ⟨by simpa [PyData.canLay0] using a1, by simpa [PyData.showable] using a2, by simpa [PyData.hasDict] using a3, by simp only [PyData.depth]; omega, by simp only [wD]; omega⟩
theorem rq_tup {w k m : Nat} {xs : List D} (h : ∀ x ∈ xs, Rq x w k) (hl : xs.length ≤ m) : Rq (.tuple xs) ((w + 2) * m + 3) (k + 1) := by
  obtain ⟨a1, a2, a3, a4, a5⟩ := rq_all h
  have := Nat.mul_le_mul_left (w + 2) hl
  exact ⟨by simpa [PyData.canLay0] using a1, by simpa [PyData.showable] using a2, by simpa [PyData.hasDict] using a3, by simp only [PyData.depth]; omega, by simp only [wD]; omega⟩
theorem rq_nil {w k : Nat} : ∀ x ∈ ([] : List D), Rq x w k := fun _ h => absurd h List.not_mem_nil
theorem rq_cons {w k : Nat} {x : D} {xs : List D} (h : Rq x w k) (hs : ∀ x ∈ xs, Rq x w k) : ∀ y ∈ x :: xs, Rq y w k := List.forall_mem_cons.2 ⟨h, hs⟩
theorem rq_app {w k : Nat} {xs ys : List D} (h : ∀ x ∈ xs, Rq x w k) (hs : ∀ x ∈ ys, Rq x w k) : ∀ y ∈ xs ++ ys, Rq y w k := fun y hy => (List.mem_append.1 hy).elim (h y) (hs y)
theorem rq_map {α : Type} {w k : Nat} {f : α → D} {xs : List α} (h : ∀ a ∈ xs, Rq (f a) w k) : ∀ y ∈ xs.map f, Rq y w k := fun y hy => by
  obtain ⟨a, ha, rfl⟩ := List.mem_map.1 hy
  exact h a ha
theorem rq_filter {w k : Nat} {p : D → Bool} {xs : List D} (h : ∀ x ∈ xs, Rq x w k) : ∀ y ∈ xs.filter p, Rq y w k := fun y hy => h y (List.mem_filter.1 hy).1
section
variable {d : D} {w k : Nat}
theorem Rq.shaped (h : Rq d w k) (hk : k ≤ 60) : SeqAt.shaped d = true := by
  unfold SeqAt.shaped
  rw [h.lay, decide_eq_true (show d.depth ≤ 64 by have := h.dp; omega)]
  rfl
theorem Rq.repr (h : Rq d w k) (hw : w ≤ 100000) (hk : k ≤ 50) : bltD .repr [d] = some (.str d.shown) := repr_ok h.sh h.nd (Nat.le_trans h.dp hk) (Nat.le_trans h.wd hw)
theorem Rq.eqv (h : Rq d w k) : PyData.eqv d d = true := SeqAt.eqv_refl d h.lay
theorem Rq.eq (h : Rq d w k) (hk : k ≤ 60) : cmpD .Eq d d = some true := by
  show eqD d d = _
  unfold eqD
  rw [h.shaped hk, h.eqv, if_pos (by simp)]
theorem Rq.ne (h : Rq d w k) (hk : k ≤ 60) : cmpD .NotEq d d = some false := by
  show (cmpD .Eq d d).map (!·) = _
  rw [h.eq hk]
  rfl
theorem xr_repr {Q : D → Prop} (h : Rq d w k) (hw : w ≤ 100000) (hk : k ≤ 50) (q : Q (.str d.shown)) : ∃ e, bltD .repr [d] = some e ∧ Q e := ⟨_, h.repr hw hk, q⟩
theorem xr_eq {R : Bool → Prop} (h : Rq d w k) (hk : k ≤ 60) (q : R true) : ∃ e, cmpD .Eq d d = some e ∧ R e := ⟨_, h.eq hk, q⟩
theorem xr_ne {R : Bool → Prop} (h : Rq d w k) (hk : k ≤ 60) (q : R false) : ∃ e, cmpD .NotEq d d = some e ∧ R e := ⟨_, h.ne hk, q⟩
end
end Ev

set_option Elab.async false
set_option linter.all false
set_option maxRecDepth 100000
set_option maxHeartbeats 4000000
namespace Ev
set_option exponentiation.threshold 5000
open PySem PySem.Spec PyProof.Rows L2
def c_round_of : List CS := [.exp (.call "check_display" [0] [(.var 0)]), .ret (.bin .Mult (.idv 0 (.cst (PyData.int 0))) (.idv 0 (.cst (PyData.int 1))))]
def c_place_at : List CS := [.unp [2, 3, 4, 5] (.var 0), .unp [6, 7] (.blt .divmod [(.bin .Mod (.var 1) (.bin .Mult (.var 2) (.var 3))), (.var 3)]), .ret (.ite (.cmp .Lt (.var 7) (.var 4)) (.var 6) (.cst PyData.none))]
def c_lit_place : List CS := [.exp (.call "check_display" [0] [(.var 0)]), .exp (.call "check_tick" [0] [(.var 1)]), .ret (.call "place_at" [0, 1] [(.var 0), (.var 1)])]
def plc (P S L t : Int) : D := if t % (P * S) % S < L then .int (t % (P * S) / S) else .none
section
variable {P S L : Int} {d : Str} {tbl : List (Str × De)} {n : Nat}
theorem round_of_val (T : Dsp0 tbl) (h : Lk tbl "round_of" 1 1 false c_round_of) (v : Val P S L d) : calN tbl (n + 4) "round_of" [dsp P S L d] = .ok (.int (P * S)) none := by
  rw [lk_run h rfl]
  have e1 := check_display_val (n := n) T v
  have m2 := mul_sm (j := S) (smG_le8 (i := P) (by have := v.p1; omega) v.p8)
  simp [c_round_of, evB, evS, evT, ev, evA, evO, evC, Rs.st, Rs.bind, ofO, SR.seq, set0, ofS, setTg, setMany, truR, truD, callR, permD, outR, oldR, nons, List.replicate, lim, e1, idx_p, idx_s, m2]
theorem place_at_val (h : Lk tbl "place_at" 8 2 false c_place_at) (v : Val P S L d) (t : Int) : calN tbl (n + 1) "place_at" [dsp P S L d, .int t] = .ok (plc P S L t) none := by
  rw [lk_run h rfl]
  have m2 := mul_sm (j := S) (smG_le8 (i := P) (by have := v.p1; omega) v.p8)
  have m3 := opD_mod (i := t) v.sR.2
  have m4 := divmod_val (i := t % (P * S)) (j := S) (by have := v.s1; omega) (v.sb.big (by decide))
  unfold dsp
  unfold plc
  generalize t % (P * S) = u at *
  by_cases q : u % S < L
  · simp [c_place_at, evB, evS, evT, ev, evA, evO, evC, Rs.st, Rs.bind, ofO, SR.seq, set0, ofS, setTg, setMany, truR, truD, callR, permD, outR, oldR, nons, List.replicate, lim, m2, m3, m4, c_lt, q]
  · simp [c_place_at, evB, evS, evT, ev, evA, evO, evC, Rs.st, Rs.bind, ofO, SR.seq, set0, ofS, setTg, setMany, truR, truD, callR, permD, outR, oldR, nons, List.replicate, lim, m2, m3, m4, c_lt, q]
theorem lit_place_val (T : Dsp0 tbl) (h0 : Lk tbl "place_at" 8 2 false c_place_at) (h : Lk tbl "lit_place" 2 2 false c_lit_place) (v : Val P S L d) (t : Int) : calN tbl (n + 4) "lit_place" [dsp P S L d, .int t] = .ok (plc P S L t) none := by
  rw [lk_run h rfl]
  have e1 := check_display_val (n := n) T v
  have e3 := check_tick_val (n := n + 1) T.i1 T.i4 t
  have e4 := place_at_val (n := n + 2) h0 v t
  simp [c_lit_place, evB, evS, evT, ev, evA, evO, evC, Rs.st, Rs.bind, ofO, SR.seq, set0, ofS, setTg, setMany, truR, truD, callR, permD, outR, oldR, nons, List.replicate, lim, e1, e3, e4]
theorem lR_iff (v : Val P S L d) : L = P * S ↔ L = S ∧ P = 1 := by
  have p1 := v.p1
  have s1 := v.s1
  have l2 := v.l2
  constructor
  · intro h
    have hs := v.sR.1
    have e : S = P * S := by omega
    refine ⟨by omega, ?_⟩
    apply Classical.byContradiction
    intro hP
    have := Lit.mul_le (show 2 ≤ P by omega) (show 0 ≤ S by omega)
    omega
  · rintro ⟨h1, h2⟩
    rw [h2]
    omega
theorem in_round (v : Val P S L d) (T j : Int) {a : Int} (h0 : 0 ≤ a) (h1 : a < P * S) : (T * (P * S) + j * S + a - j * S) % (P * S) = a :=
  (Lit.div_of (q := T) h0 h1 (by omega)).2
theorem plc_at (v : Val P S L d) {T j a : Int} (j0 : 0 ≤ j) (j1 : j < P) (h0 : 0 ≤ a) (h1 : a < S) : plc P S L (T * (P * S) + j * S + a) = if a < L then .int j else .none := by
  have s1 := v.s1
  have k1 := Lit.mul_le (show j + 1 ≤ P by omega) (show 0 ≤ S by omega)
  have k0 := Lit.mul_le j0 (show 0 ≤ S by omega)
  rw [Int.add_mul, Int.one_mul] at k1
  have e1 := (Lit.div_of (R := P * S) (q := T) (u := T * (P * S) + j * S + a) (r := j * S + a) (by omega) (by omega) (by omega)).2
  obtain ⟨e2, e3⟩ := Lit.div_of (R := S) (q := j) (u := j * S + a) h0 h1 rfl
  unfold plc
  rw [e1, e2, e3]
theorem plc_next (v : Val P S L d) {T j : Int} (j0 : 0 ≤ j) (j1 : j < P) : plc P S L (T * (P * S) + j * S + S) = .int (if j + 1 < P then j + 1 else 0) := by
  have s1 := v.s1
  have l1 := v.l1
  by_cases h : j + 1 < P
  · have e := plc_at v (T := T) (j := j + 1) (a := 0) (by omega) h (by omega) (by omega)
    rw [if_pos (by omega)] at e
    rw [if_pos h, ← e, Int.add_mul]
    congr 1
    omega
  · have e := plc_at v (T := T + 1) (j := 0) (a := 0) (by omega) (by omega) (by omega) (by omega)
    rw [if_pos (by omega)] at e
    rw [if_neg h, ← e, Int.add_mul]
    congr 1
    have : j + 1 = P := by omega
    rw [← this, Int.add_mul]
    omega
theorem win_le (v : Val P S L d) {j a b : Int} (h : a ≤ b) : win P S L j a b = ahd P S L j b - ahd P S L j a := by
  unfold win
  split
  · rfl
  · have : a = b := by omega
    rw [this]; omega
theorem win_gt {j a b : Int} (h : b ≤ a) : win P S L j a b = 0 := if_neg (by omega)
/-- from the begin of a slot on -/
theorem win_slot (v : Val P S L d) (T j : Int) {a b : Int} (h0 : 0 ≤ a) (h1 : a ≤ b) (h2 : b ≤ P * S) : win P S L j (T * (P * S) + j * S + a) (T * (P * S) + j * S + b) = (if L < b then L else b) - (if L < a then L else a) := by
  have l1 := v.l1
  have lR := v.lR
  have at_ : ∀ x, 0 ≤ x → x ≤ P * S → ahd P S L j (T * (P * S) + j * S + x) = T * L + (if L < x then L else x) := fun x x0 x1 => by
    unfold ahd
    by_cases hx : x < P * S
    · have := Lit.cnt_at (L := L) (q := T) x0 hx
      rw [← this]
      congr 1
      omega
    · have e : x = P * S := by omega
      subst e
      have := Lit.cnt_at (R := P * S) (L := L) (q := T + 1) (r := 0) (by omega) (by omega)
      rw [show T * (P * S) + j * S + P * S - j * S = (T + 1) * (P * S) + 0 by rw [Int.add_mul]; omega, this, Int.add_mul]
      split <;> split <;> omega
  rw [win_le v (by omega), at_ a h0 (by omega), at_ b (by omega) h2]
  omega
theorem win_add (v : Val P S L d) (j a : Int) {k : Int} (h : 0 ≤ k) : win P S L j a (a + k * (P * S)) = k * L := by
  have := Lit.mul_le h (show 0 ≤ P * S by have := v.sR.2; omega)
  rw [win_le v (by omega), ahd_add v]
  omega
theorem win_both (v : Val P S L d) (j a b k : Int) : win P S L j (a + k * (P * S)) (b + k * (P * S)) = win P S L j a b := by
  unfold win
  rw [ahd_add v, ahd_add v]
  split <;> split <;> omega
theorem sumD_int (f : Nat → Int) (n : Nat) : sumD [.list ((List.range n).map fun k => PyData.int (f k))] = some (.int ((List.range n).map f).sum) := by
  have h : ∀ l : List Nat, intsOf (l.map fun k => PyData.int (f k)) = some (l.map f) := fun l => by
    induction l with
    | nil => rfl
    | cons a l ih =>
      show (intsOf (l.map fun k => PyData.int (f k))).map (f a :: ·) = _
      rw [ih]
      rfl
  show (intsOf _).map _ = _
  rw [h]
  rfl
theorem sum_win (v : Val P S L d) {a b : Int} (h : a ≤ b) (n : Nat) : ((List.range n).map fun k : Nat => win P S L k a b).sum = Lit.tot P S L n b - Lit.tot P S L n a := by
  induction n with
  | zero => rfl
  | succ n ih =>
    rw [List.range_succ, List.map_append, List.sum_append, ih, Lit.tot_succ, Lit.tot_succ]
    simp only [List.map_cons, List.map_nil, List.sum_cons, List.sum_nil]
    rw [win_le v h]
    unfold ahd
    omega
end
theorem it9l (xs : List D) : itemsD 9 [.list xs] = some xs := rfl
end Ev

set_option Elab.async false
set_option linter.all false
set_option maxRecDepth 100000
set_option maxHeartbeats 4000000
namespace Ev
set_option exponentiation.threshold 5000
open PySem PySem.Spec PyProof.Rows L2
def tapC : List CS := [.iff (.cmp .Gt (.idv 0 (.cst (PyData.int 0))) (.cst (PyData.int 0))) [.asg 3 (.bin .Mod (.blt .int [(.idv 0 (.cst (PyData.int 0)))]) (.var 1)), .sub 0 (.cst (PyData.int 0)) (.bin .FloorDiv (.idv 0 (.cst (PyData.int 0))) (.var 1)), .ret (.var 3)] [], .sub 0 (.cst (PyData.int 2)) (.bin .Add (.idv 0 (.cst (PyData.int 2))) (.cst (PyData.int 1))), .asg 2 (.bin .Mod (.blt .int [(.bin .Pow (.bin .Add (.idv 0 (.cst (PyData.int 1))) (.bin .Mult (.cst (PyData.int 350377)) (.idv 0 (.cst (PyData.int 2))))) (.cst (PyData.int 3)))]) (.cst (PyData.int 170141183460469231731687303715884105727))), .asg 2 (.bin .Mod (.blt .int [(.bin .Pow (.bin .Add (.var 2) (.bin .Mult (.cst (PyData.int 27644437)) (.idv 0 (.cst (PyData.int 2))))) (.cst (PyData.int 3)))]) (.bin .Add (.bin .Pow (.cst (PyData.int 10)) (.cst (PyData.int 46))) (.cst (PyData.int 9)))), .ret (.bin .Mod (.blt .int [(.bin .FloorDiv (.var 2) (.cst (PyData.int 524288)))]) (.var 1))]
def tankC : List CS := [.asg 2 (.ite (.cmp .Lt (.var 1) (.blt .len [(.var 0)])) (.idv 0 (.var 1)) (.cst (PyData.int 0))), .retO (.lst [(.blt .max [(.cst (PyData.int 0)), (.bin .Sub (.blt .abs [(.var 2)]) (.bin .Pow (.cst (PyData.int 10)) (.cst (PyData.int 18))))]), (.bin .Add (.bin .Mod (.blt .int [(.var 2)]) (.cst (PyData.int 1000000000000000003))) (.bin .Mult (.cst (PyData.int 104729)) (.bin .Add (.var 1) (.cst (PyData.int 1))))), (.cst (PyData.int 0))])]
def c_law_panel : List CS := [.asg 3 (.bin .Add (.cst (PyData.int 1)) (.cio "_law_tap" 0 [(.var 2)])), .asg 4 (.idx (.lst [(.cst (PyData.int 1)), (.var 3), (.bin .Add (.cst (PyData.int 1)) (.cio "_law_tap" 0 [(.var 3)])), (.bin .Sub (.var 3) (.bin .FloorDiv (.var 3) (.cst (PyData.int 4))))]) (.cio "_law_tap" 0 [(.cst (PyData.int 4))])), .ret (.tup [(.bin .Add (.cst (PyData.int 1)) (.cio "_law_tap" 0 [(.var 1)])), (.var 3), (.var 4), (.idx (.lst [(.cst (PyData.str "now")), (.cst (PyData.str "round"))]) (.cio "_law_tap" 0 [(.cst (PyData.int 2))]))])]
def c_law_lens : List CS := [.asg 2 (.bin .Mult (.idv 1 (.cst (PyData.int 0))) (.idv 1 (.cst (PyData.int 1)))), .own 3 (.lst [(.var 2), (.bin .Add (.var 2) (.cst (PyData.int 1))), (.bin .Sub (.var 2) (.cst (PyData.int 1))), (.bin .Mult (.cst (PyData.int 2)) (.var 2)), (.bin .Add (.cst (PyData.int 1)) (.cio "_law_tap" 0 [(.var 2)])), (.bin .Add (.cst (PyData.int 1)) (.cio "_law_tap" 0 [(.bin .Mult (.cst (PyData.int 3)) (.var 2))]))]), .app 3 (.bin .Add (.bin .Add (.bin .Sub (.var 2) (.idv 1 (.cst (PyData.int 2)))) (.cst (PyData.int 1))) (.cio "_law_tap" 0 [(.idv 1 (.cst (PyData.int 2)))])), .asg 4 (.blt .max [(.cst (PyData.int 1)), (.idv 3 (.cio "_law_tap" 0 [(.cst (PyData.int 7))]))]), .asg 5 (.bin .Add (.bin .Mult (.bin .FloorDiv (.var 4) (.var 2)) (.idv 1 (.cst (PyData.int 2)))) (.blt .min [(.bin .Mod (.blt .int [(.var 4)]) (.var 2)), (.idv 1 (.cst (PyData.int 2)))])), .own 6 (.lst [(.cst (PyData.int 1)), (.var 5), (.bin .FloorDiv (.var 5) (.cst (PyData.int 2))), (.bin .Add (.bin .FloorDiv (.var 5) (.cst (PyData.int 2))) (.cst (PyData.int 1))), (.bin .Sub (.var 5) (.cst (PyData.int 1))), (.bin .Add (.cst (PyData.int 1)) (.cio "_law_tap" 0 [(.bin .Add (.var 5) (.cst (PyData.int 1)))])), (.bin .Add (.var 5) (.cst (PyData.int 1)))]), .ret (.tup [(.var 4), (.blt .max [(.cst (PyData.int 1)), (.idv 6 (.cio "_law_tap" 0 [(.cst (PyData.int 7))]))])])]
def c_law_lights : List CS := [.asg 4 (.bin .Mult (.idv 0 (.cst (PyData.int 0))) (.idv 0 (.cst (PyData.int 1)))), .par [6, 7] [(false, (.bin .Mult (.bin .FloorDiv (.var 3) (.var 4)) (.idv 0 (.cst (PyData.int 2))))), (false, (.bin .Mod (.blt .int [(.var 3)]) (.var 4)))], .asg 5 (.bin .Mod (.blt .int [(.bin .Sub (.var 2) (.bin .Mult (.var 1) (.idv 0 (.cst (PyData.int 1)))))]) (.var 4)), .asg 6 (.bin .Add (.var 6) (.blt .max [(.cst (PyData.int 0)), (.bin .Sub (.blt .min [(.idv 0 (.cst (PyData.int 2))), (.bin .Add (.var 5) (.var 7))]) (.var 5))])), .ret (.bin .Add (.var 6) (.blt .max [(.cst (PyData.int 0)), (.blt .min [(.idv 0 (.cst (PyData.int 2))), (.bin .Sub (.bin .Add (.var 5) (.var 7)) (.var 4))])]))]
def c_check_camera : List CS := [.iff (.or (.not (.isi (.var 0) "tuple")) (.cmp .NotEq (.blt .len [(.var 0)]) (.cst (PyData.int 2)))) [.nev] [], .fr 10 [(.var 0)] [1, 2] false [.iff (.not (.call "is_from" [0, 1] [(.var 2), (.cst (PyData.int 1))])) [.nev] []]]
theorem tap_val {cal : Cal} {N : List Str} (hN : N.length = 4) {C : Nat} (hC : C < 2 ^ 60) {s : List D} {many : Int} (h : SrcOk C s) (hm : 0 < many) (hm2 : many.natAbs < 2 ^ 4096) :
    ∃ r s', runD cal N true tapC [.list s, .int many] = .ok (.int r) (some (.list s')) ∧ 0 ≤ r ∧ r < many ∧ SrcOk (C + 1) s' := by
  obtain ⟨a, b, c, rfl, ha, hb, hb2, hc, hc2⟩ := h
  have e0 : ini N true [.list [.int a, .int b, .int c], .int many] = [some (.list [.int a, .int b, .int c], true), some (.int many, false), none, none] := by
    unfold ini oldR nons
    rw [hN]
    rfl
  unfold runD
  rw [e0]
  by_cases hp : 0 < a
  · refine ⟨a % many, [.int (a / many), .int b, .int c], ?_, Int.emod_nonneg _ (by omega), Int.emod_lt_of_pos _ hm, ⟨_, _, _, rfl, Int.ediv_nonneg ha (by omega), hb, hb2, hc, by omega⟩⟩
    simp [tapC, evB, evS, evT, ev, evA, idxD, at3_0, cmpD, hp, truR, truD, Rs.st, Rs.bind, ofO, SR.seq, bltD, intD, opD_mod hm, opD_fdiv hm hm2, set0, ofS, ix3_0, lent]
  · have ha0 : ¬ (0 < a) := hp
    have k1 : (b + 350377 * (c + 1)).natAbs < 2 ^ 4096 := lt4096 (k := 100) (by omega) (by omega) (by decide)
    have k2 := Int.emod_nonneg ((b + 350377 * (c + 1)) ^ 3) (show (170141183460469231731687303715884105727 : Int) ≠ 0 by decide)
    have k3 := Int.emod_lt_of_pos ((b + 350377 * (c + 1)) ^ 3) (show (0 : Int) < 170141183460469231731687303715884105727 by decide)
    have k4 : ((b + 350377 * (c + 1)) ^ 3 % 170141183460469231731687303715884105727 + 27644437 * (c + 1)).natAbs < 2 ^ 4096 := lt4096 (k := 200) (by omega) (by omega) (by decide)
    have p2 : opD .Pow (.int 10) (.int 46) = some (.int 10000000000000000000000000000000000000000000000) := opD_pow (n := 46) (by decide) (by decide +kernel)
    refine ⟨(((b + 350377 * (c + 1)) ^ 3 % 170141183460469231731687303715884105727 + 27644437 * (c + 1)) ^ 3 % 10000000000000000000000000000000000000000000009) / 524288 % many, [.int a, .int b, .int (c + 1)], ?_, Int.emod_nonneg _ (by omega), Int.emod_lt_of_pos _ hm, ⟨_, _, _, rfl, ha, hb, hb2, by omega, by push_cast; omega⟩⟩
    have o1 : ∀ i j : Int, opD .Add (.int i) (.int j) = some (.int (i + j)) := fun _ _ => rfl
    simp [tapC, evB, evS, evT, ev, evA, idxD, at3_0, at3_1, at3_2, cmpD, ha0, truR, truD, Rs.st, Rs.bind, ofO, SR.seq, bltD, intD, o1, opD_mul (show (350377 : Int).natAbs < 2 ^ 64 by decide), opD_mul (show (27644437 : Int).natAbs < 2 ^ 64 by decide), opD_pow3 k1, opD_pow3 k4, p2, opD_mod hm,
      opD_mod (show (0 : Int) < 170141183460469231731687303715884105727 by decide), opD_mod (show (0 : Int) < 10000000000000000000000000000000000000000000009 by decide), opD_fdiv (show (0 : Int) < 524288 by decide) (show (524288 : Int).natAbs < 2 ^ 4096 by decide +kernel), set0, ofS, ix3_2, lent]
theorem tank_run {cal : Cal} {ds : List D} {p c : Int} (hp : 0 ≤ p) (hp2 : p ≤ 100) (h : (if p < (ds.length : Int) then atI ds p else some (.int 0)) = some (.int c)) :
    ∃ s, evB cal false tankC [some (.list ds, false), some (.int p, false), none] = .ro s [some (.list ds, false), some (.int p, false), some (.int c, false)] ∧ SrcOk 0 s := by
  have k1 := Int.emod_nonneg c (show (1000000000000000003 : Int) ≠ 0 by decide)
  have k2 := Int.emod_lt_of_pos c (show (0 : Int) < 1000000000000000003 by decide)
  refine ⟨[.int (if (if c < 0 then -c else c) - 10 ^ 18 > 0 then (if c < 0 then -c else c) - 10 ^ 18 else 0), .int (c % 1000000000000000003 + 104729 * (p + 1)), .int 0], ?_, ⟨_, _, _, rfl, ?_, by omega, by omega, by omega, by omega⟩⟩
  · have p1 : opD .Pow (.int 10) (.int 18) = some (.int 1000000000000000000) := opD_pow (n := 18) (by decide) (by decide +kernel)
    have o1 : ∀ i j : Int, opD .Add (.int i) (.int j) = some (.int (i + j)) := fun _ _ => rfl
    have o2 : ∀ i j : Int, opD .Sub (.int i) (.int j) = some (.int (i - j)) := fun _ _ => rfl
    have m1 := opD_mul (i := 104729) (j := p + 1) (show (104729 : Int).natAbs < 2 ^ 64 by decide)
    have m2 := opD_mod (i := c) (show (0 : Int) < 1000000000000000003 by decide)
    by_cases hq : p < (ds.length : Int)
    · rw [if_pos hq] at h
      simp [tankC, evB, evS, evT, ev, evA, evOwn, idxD, h, cmpD, hq, truR, truD, Rs.st, Rs.bind, ofO, SR.seq, bltD, intD, absD, lenD, maxD, p1, o1, o2, m1, m2, set0, ofS, lim]
    · rw [if_neg hq] at h
      cases h
      simp [tankC, evB, evS, evT, ev, evA, evOwn, idxD, cmpD, hq, truR, truD, Rs.st, Rs.bind, ofO, SR.seq, bltD, intD, absD, lenD, maxD, p1, o1, o2, m1, m2, set0, ofS, lim]
  · split
    · omega
    · omega
theorem tank_val {cal : Cal} {N : List Str} (hN : N.length = 3) (ns : List Int) {p : Nat} (hp : p ≤ 100) : ∃ s, runD cal N false tankC [.list (ns.map .int), .int (p : Nat)] = .ow s none ∧ SrcOk 0 s := by
  have e0 : ini N false [.list (ns.map .int), .int (p : Nat)] = [some (.list (ns.map PyData.int), false), some (.int (p : Nat), false), none] := by
    unfold ini oldR nons
    rw [hN]
    rfl
  obtain ⟨c, hc⟩ : ∃ c, (if (p : Int) < ((ns.map PyData.int).length : Int) then atI (ns.map PyData.int) p else some (.int 0)) = some (.int c) := by
    by_cases hq : p < ns.length
    · refine ⟨ns[p], ?_⟩
      rw [if_pos (by rw [List.length_map]; omega)]
      unfold atI ixN
      rw [if_pos (by omega), if_pos (by rw [List.length_map]; omega)]
      simp [hq]
    · exact ⟨0, if_neg (by rw [List.length_map]; omega)⟩
  obtain ⟨s, h1, h2⟩ := tank_run (cal := cal) (by omega) (by omega) hc
  refine ⟨s, ?_, h2⟩
  unfold runD
  rw [e0, h1]
  rfl
section
variable {tbl : List (Str × De)} {n : Nat} {P S L : Int} {d : Str}
theorem tap_lk (h : Lk tbl "_law_tap" 4 2 true tapC) {C : Nat} (hC : C < 2 ^ 60) {s : List D} {many : Int} (hs : SrcOk C s) (hm : 0 < many) (hm2 : Bd 4096 many) :
    ∃ r s', calN tbl (n + 1) "_law_tap" [.list s, .int many] = .ok (.int r) (some (.list s')) ∧ 0 ≤ r ∧ r < many ∧ SrcOk (C + 1) s' := by
  obtain ⟨N, h2, e⟩ := lk_runD (n := n) (ds := [.list s, .int many]) h rfl
  obtain ⟨r, s', q, q2⟩ := tap_val (cal := calN tbl n) h2 hC hs hm hm2
  exact ⟨r, s', by rw [e, q], q2⟩
theorem tank_lk (h : Lk tbl "_law_tank" 3 2 false tankC) (ns : List Int) {p : Nat} (hp : p ≤ 100) : ∃ s, calN tbl (n + 1) "_law_tank" [.list (ns.map .int), .int (p : Nat)] = .ow s none ∧ SrcOk 0 s := by
  obtain ⟨N, h2, e⟩ := lk_runD (n := n) (ds := [.list (ns.map .int), .int (p : Nat)]) h rfl
  obtain ⟨s, q, q2⟩ := tank_val (cal := calN tbl n) h2 ns hp
  exact ⟨s, by rw [e, q], q2⟩
theorem panel_val (hD : Lk tbl "_law_tap" 4 2 true tapC) (h : Lk tbl "_law_panel" 5 3 true c_law_panel) {C : Nat} (hC : C + 10 < 2 ^ 60) {s : List D} (hs : SrcOk C s) {top wide : Int} (m1 : 1 ≤ top) (m8 : top ≤ 8) (f1 : 1 ≤ wide) (fb : wide ≤ 10 ^ 28) :
    ∃ P S L d s', calN tbl (n + 2) "_law_panel" [.list s, .int top, .int wide] = .ok (dsp P S L d) (some (.list s')) ∧ Val P S L d ∧ P ≤ top ∧ S ≤ wide ∧ SrcOk (C + 5) s' := by
  have c28 : (10 : Int) ^ 28 = 10000000000000000000000000000 := by decide
  obtain ⟨r2, s2, e2, a2, b2, o2⟩ := tap_lk (n := n) hD (by omega) hs (many := wide) (by omega) ((Bd.of (k := 200) (by omega) (by omega)).up (by decide))
  obtain ⟨r3, s3, e3, a3, b3, o3⟩ := tap_lk (n := n) hD (by omega) o2 (many := 1 + r2) (by omega) ((Bd.of (k := 200) (by omega) (by omega)).up (by decide))
  obtain ⟨r4, s4, e4, a4, b4, o4⟩ := tap_lk (n := n) hD (by omega) o3 (many := 4) (by decide) (by decide)
  obtain ⟨x2, hx2, i2⟩ := idx_mem (xs := [.int 1, .int (1 + r2), .int (1 + r3), .int (1 + r2 - (1 + r2) / 4)]) a4 b4
  obtain ⟨L, rfl, l1, l2⟩ : ∃ m, x2 = .int m ∧ 1 ≤ m ∧ m ≤ 1 + r2 := by
    simp only [List.mem_cons, List.mem_nil_iff, or_false] at hx2
    rcases hx2 with rfl | rfl | rfl | rfl
    · exact ⟨1, rfl, by omega, by omega⟩
    · exact ⟨1 + r2, rfl, by omega, by omega⟩
    · exact ⟨1 + r3, rfl, by omega, by omega⟩
    · exact ⟨_, rfl, by omega, by omega⟩
  obtain ⟨r5, s5, e5, a5, b5, o5⟩ := tap_lk (n := n) hD (by omega) o4 (many := top) (by omega) ((Bd.of (k := 200) (by omega) (by omega)).up (by decide))
  obtain ⟨r6, s6, e6, a6, b6, o6⟩ := tap_lk (n := n) hD (by omega) o5 (many := 2) (by decide) (by decide)
  obtain ⟨x3, hx3, i3⟩ := idx_mem (xs := [.str "now", .str "round"]) a6 b6
  obtain ⟨d, rfl, dd⟩ : ∃ d : Str, x3 = .str d ∧ (d = ("now" : Str) ∨ d = ("round" : Str)) := by
    simp only [List.mem_cons, List.mem_nil_iff, or_false] at hx3
    rcases hx3 with rfl | rfl
    · exact ⟨_, rfl, .inl rfl⟩
    · exact ⟨_, rfl, .inr rfl⟩
  refine ⟨1 + r5, 1 + r2, L, d, s6, ?_, ⟨by omega, by omega, by omega, l1, l2, dd, (Bd.of (k := 200) (by omega) (by omega)).up (by decide)⟩, by omega, by omega, o6⟩
  have p4 := opD_fdiv (i := 1 + r2) (j := 4) (by decide) (by decide)
  rw [lk_runL h rfl]
  simp [c_law_panel, evB, evS, evT, ev, evA, evO, evC, Rs.st, Rs.bind, ofO, SR.seq, set0, ofS, setTg, setMany, truR, truD, callR, permD, outR, oldR, nons, List.replicate, lim, cioR, outL, lent, lim, e2, e3, e4, e5, e6, i2, i3, o_add, o_sub, p4, dsp]
end
end Ev
namespace Lit
/-- a window's lit ticks, from the gap at its begin -/
theorem cnt_win {R L : Int} (hL : 0 < L) (hR : L ≤ R) (u w : Int) (g l : Int) (hg : u % R = g) (hl : w % R = l) :
    cnt R L (u + w) - cnt R L u = w / R * L + (if (if g + l < L then g + l else L) - g > 0 then (if g + l < L then g + l else L) - g else 0) + (if (if g + l - R < L then g + l - R else L) > 0 then (if g + l - R < L then g + l - R else L) else 0) := by
  have g0 := Int.emod_nonneg u (show R ≠ 0 by omega)
  have g1 := Int.emod_lt_of_pos u (show 0 < R by omega)
  have l0 := Int.emod_nonneg w (show R ≠ 0 by omega)
  have l1 := Int.emod_lt_of_pos w (show 0 < R by omega)
  have eu := split u R
  have ew := split w R
  have c1 : cnt R L u = u / R * L + (if L < g then L else g) := by unfold cnt; rw [hg]
  by_cases h : g + l < R
  · have c2 := cnt_at (R := R) (L := L) (q := u / R + w / R) (r := g + l) (by omega) h
    rw [show (u / R + w / R) * R + (g + l) = u + w by rw [Int.add_mul]; omega, Int.add_mul] at c2
    rw [c1, c2]
    clear c1 c2 eu ew
    generalize u / R * L = a
    generalize w / R * L = b
    repeat' split
    all_goals omega
  · have c2 := cnt_at (R := R) (L := L) (q := u / R + w / R + 1) (r := g + l - R) (by omega) (by omega)
    rw [show (u / R + w / R + 1) * R + (g + l - R) = u + w by rw [Int.add_mul, Int.add_mul]; omega, Int.add_mul, Int.add_mul] at c2
    rw [c1, c2]
    clear c1 c2 eu ew
    generalize u / R * L = a
    generalize w / R * L = b
    repeat' split
    all_goals omega
end Lit
namespace Ev
set_option exponentiation.threshold 5000
open PySem PySem.Spec PyProof.Rows L2
def cam (E N : Int) : D := .tuple [.int E, .int N]
theorem idx_e (E N : Int) : idxD (cam E N) (.int 0) = some (.int E) := rfl
theorem idx_n (E N : Int) : idxD (cam E N) (.int 1) = some (.int N) := rfl
theorem it10t (a b : D) : itemsD 10 [.tuple [a, b]] = some [.tuple [.int 0, a], .tuple [.int 1, b]] := rfl
theorem len_t2 (a b : D) : bltD .len [.tuple [a, b]] = some (.int 2) := rfl
section
variable {tbl : List (Str × De)} {n : Nat} {P S L : Int} {d : Str}
theorem check_camera_val (T : Dsp0 tbl) (h : Lk tbl "check_camera" 3 1 false c_check_camera) {E N : Int} (hE : 1 ≤ E) (hN : 1 ≤ N) : calN tbl (n + 3) "check_camera" [cam E N] = .ok .none none := by
  rw [lk_run h rfl]
  have e1 := is_from_val (n := n + 1) T.i2 E 1
  have e2 := is_from_val (n := n + 1) T.i2 N 1
  rw [decide_eq_true hE] at e1
  rw [decide_eq_true hN] at e2
  unfold cam
  simp [c_check_camera, evB, evS, evT, ev, evA, evO, evC, Rs.st, Rs.bind, ofO, SR.seq, set0, ofS, setTg, setMany, truR, truD, callR, permD, outR, oldR, nons, List.replicate, lim, isi_tt, len_t2, c_ne, forL, it10t, e1, e2]
theorem lens_val (hD : Lk tbl "_law_tap" 4 2 true tapC) (h : Lk tbl "_law_lens" 7 2 true c_law_lens) {C : Nat} (hC : C + 10 < 2 ^ 60) {s : List D} (hs : SrcOk C s) (v : Val P S L d) :
    ∃ E N s', calN tbl (n + 2) "_law_lens" [.list s, dsp P S L d] = .ok (cam E N) (some (.list s')) ∧ 1 ≤ E ∧ E ≤ 3 * (P * S) + 1 ∧ 1 ≤ N ∧ Bd 620 N ∧ N ≤ E + 2 ∧ SrcOk (C + 6) s' := by
  have l1 := v.l1
  have lR := v.lR
  have R0 := v.sR.2
  have b3 : Bd 306 (3 * (P * S)) := ((show Bd 2 3 by decide).mul v.rb).up (by decide)
  obtain ⟨t1, s1, e1, x1, y1, o1⟩ := tap_lk (n := n) hD (by omega) hs (many := P * S) R0 (v.rb.up (by decide))
  obtain ⟨t2, s2, e2, x2, y2, o2⟩ := tap_lk (n := n) hD (by omega) o1 (many := 3 * (P * S)) (by omega) (b3.up (by decide))
  obtain ⟨t3, s3, e3, x3, y3, o3⟩ := tap_lk (n := n) hD (by omega) o2 (many := L) (by omega) (v.lb.up (by decide))
  obtain ⟨t4, s4, e4, x4, y4, o4⟩ := tap_lk (n := n) hD (by omega) o3 (many := 7) (by decide) (by decide)
  obtain ⟨x, hx, i1⟩ := idx_mem (xs := [.int (P * S), .int (P * S + 1), .int (P * S - 1), .int (2 * (P * S)), .int (1 + t1), .int (1 + t2), .int (P * S - L + 1 + t3)]) x4 y4
  obtain ⟨y, rfl, hy⟩ : ∃ y, x = .int y ∧ y ≤ 3 * (P * S) + 1 := by
    simp only [List.mem_cons, List.mem_nil_iff, or_false] at hx
    rcases hx with rfl | rfl | rfl | rfl | rfl | rfl | rfl <;> exact ⟨_, rfl, by omega⟩
  obtain ⟨E, hE⟩ : ∃ E, E = if y > 1 then y else 1 := ⟨_, rfl⟩
  have E1 : 1 ≤ E := by rw [hE]; split <;> omega
  have E2 : E ≤ 3 * (P * S) + 1 := by rw [hE]; split <;> omega
  have bE : Bd 308 E := ((b3.add (show Bd 1 1 by decide)).between (by omega) E2).up (by decide)
  have q0 := Int.emod_nonneg E (show P * S ≠ 0 by omega)
  have d0 : 0 ≤ E / (P * S) * L := Int.mul_nonneg (Int.ediv_nonneg (by omega) (by omega)) (by omega)
  have bd : Bd 608 (E / (P * S) * L) := (bE.div R0).mul v.lb
  have bq := v.rb.mod (i := E) R0
  obtain ⟨G, hG⟩ : ∃ G, G = E / (P * S) * L + (if L < E % (P * S) then L else E % (P * S)) := ⟨_, rfl⟩
  have G0 : 0 ≤ G := by rw [hG]; split <;> omega
  have bG : Bd 609 G := by
    rw [hG]
    split
    · exact (bd.add v.lb).up (by decide)
    · exact (bd.add bq).up (by decide)
  obtain ⟨t5, s5, e5, x5, y5, o5⟩ := tap_lk (n := n) hD (by omega) o4 (many := G + 1) (by omega) ((bG.add (show Bd 1 1 by decide)).up (by decide))
  obtain ⟨t6, s6, e6, x6, y6, o6⟩ := tap_lk (n := n) hD (by omega) o5 (many := 7) (by decide) (by decide)
  obtain ⟨x', hx', i2⟩ := idx_mem (xs := [.int 1, .int G, .int (G / 2), .int (G / 2 + 1), .int (G - 1), .int (1 + t5), .int (G + 1)]) x6 y6
  obtain ⟨y', rfl, hy'⟩ : ∃ y, x' = .int y ∧ y ≤ G + 2 := by
    simp only [List.mem_cons, List.mem_nil_iff, or_false] at hx'
    rcases hx' with rfl | rfl | rfl | rfl | rfl | rfl | rfl <;> exact ⟨_, rfl, by omega⟩
  obtain ⟨N, hN⟩ : ∃ N, N = if y' > 1 then y' else 1 := ⟨_, rfl⟩
  have N1 : 1 ≤ N := by rw [hN]; split <;> omega
  have N2 : N ≤ G + 2 := by rw [hN]; split <;> omega
  have GE : G ≤ E := by
    have h1 := Lit.mul_le lR (show 0 ≤ E / (P * S) from Int.ediv_nonneg (by omega) (by omega))
    rw [Int.mul_comm L, Int.mul_comm (P * S)] at h1
    have h2 := Lit.split E (P * S)
    rw [hG]
    split <;> omega
  refine ⟨E, N, s6, ?_, E1, E2, N1, ((bG.add (show Bd 2 2 by decide)).between (by omega) N2).up (by decide), by omega, o6⟩
  have m2 := mul_sm (i := P) (j := S) (smG_le8 (by have := v.p1; omega) v.p8)
  have m3 := mul_sm (i := 2) (j := P * S) (by decide)
  have m4 := mul_sm (i := 3) (j := P * S) (by decide)
  have p1 := opD_fdiv (i := E) R0 (v.rb.up (by decide))
  have p2 := opD_mod (i := E) R0
  have p3 := opD_fdiv (i := G) (j := 2) (by decide) (by decide)
  have m5 := mul_big (i := E / (P * S)) (j := L) ((bE.div R0).big (by decide)) (v.lb.big (by decide))
  have mx : bltD .max [.int 1, .int y] = some (.int E) := by rw [max_val, hE]
  have mx' : bltD .max [.int 1, .int y'] = some (.int N) := by rw [max_val, hN]
  have aG : opD .Add (.int (E / (P * S) * L)) (.int (if L < E % (P * S) then L else E % (P * S))) = some (.int G) := by rw [o_add, hG]
  rw [lk_runL h rfl]
  have o_add' := o_add
  have w : evB (calN tbl (n + 1)) true c_law_lens (some (.list s, true) :: (oldR [dsp P S L d] ++ nons 5)) = .rt (cam E N) [some (.list s6, true), some (dsp P S L d, false), some (.int (P * S), false), some (.list [.int (P * S), .int (P * S + 1), .int (P * S - 1), .int (2 * (P * S)), .int (1 + t1), .int (1 + t2), .int (P * S - L + 1 + t3)], true), some (.int E, false), some (.int G, false), some (.list [.int 1, .int G, .int (G / 2), .int (G / 2 + 1), .int (G - 1), .int (1 + t5), .int (G + 1)], true)] := by
    simp only [c_law_lens, evB, evS, evT, ev, evA, evO, evC, Rs.st, Rs.bind, ofO, SR.seq, set0, ofS, setTg, setMany, truR, truD, callR, permD, outR, oldR, nons, List.replicate, lim, evOwn, setOwn, cioR, lim, List.map_cons, List.map_nil, List.cons_append, List.nil_append, List.getElem?_cons_zero, List.getElem?_cons_succ, List.set_cons_zero, List.set_cons_succ]
    simp [idx_p, idx_s, idx_l, e1, e2, e3, e4, e5, e6, i1, i2, o_sub, m2, m3, m4, p1, p2, p3, m5, mx, mx', int_val, min_val, aG, o_add, cam]
  show outL (evB (calN tbl (n + 1)) true c_law_lens (some (.list s, true) :: (oldR [dsp P S L d] ++ nons 5))) = _
  rw [w]
  simp [outL, lent]
end
end Ev

set_option Elab.async false
set_option linter.all false
set_option maxRecDepth 100000
set_option maxHeartbeats 4000000
namespace Ev
set_option exponentiation.threshold 5000
open PySem PySem.Spec PyProof.Rows L2
def c_thresholds_within : List CS := [.unp [6, 7] (.var 1), .asg 4 (.call "lit_ahead" [0, 1, 2] [(.var 0), (.var 2), (.var 3)]), .asg 5 (.call "lit_ahead" [0, 1, 2] [(.var 0), (.var 2), (.bin .Add (.var 3) (.var 6))]), .iff (.cmp .Lt (.bin .Sub (.var 5) (.var 4)) (.var 7)) [.ret (.cst PyData.none)] [], .ret (.tup [(.bin .Add (.call "lit_tick" [0, 1, 2] [(.var 0), (.var 2), (.bin .Sub (.bin .Add (.var 4) (.var 7)) (.cst (PyData.int 1)))]) (.cst (PyData.int 1))), (.call "lit_tick" [0, 1, 2] [(.var 0), (.var 2), (.bin .Sub (.var 5) (.var 7))])])]
def c_place_thresholds : List CS := [.exp (.call "check_display" [0] [(.var 0)]), .exp (.call "check_camera" [0] [(.var 1)]), .exp (.call "check_place" [0, 1] [(.var 0), (.var 2)]), .exp (.call "check_tick" [0] [(.var 3)]), .ret (.call "thresholds_within" [0, 1, 2, 3] [(.var 0), (.var 1), (.var 2), (.var 3)])]
section
variable {tbl : List (Str × De)} {n : Nat} {P S L : Int} {d : Str}
theorem lights_val (h : Lk tbl "_law_lights" 8 4 false c_law_lights) (v : Val P S L d) {j : Int} (h0 : 0 ≤ j) (h1 : j < P) {a w : Int} (bw : Bd 1000 w) : calN tbl (n + 1) "_law_lights" [dsp P S L d, .int j, .int a, .int w] = .ok (.int (ahd P S L j (a + w) - ahd P S L j a)) none := by
  have l1 := v.l1
  have R0 := v.sR.2
  have m1 := mul_sm (j := S) (smG_le8 h0 (by have := v.p8; omega))
  have m2 := mul_sm (j := S) (smG_le8 (i := P) (by have := v.p1; omega) v.p8)
  have p1 := opD_fdiv (i := w) R0 (v.rb.up (by decide))
  have p2 := opD_mod (i := w) R0
  have p3 := opD_mod (i := a - j * S) R0
  have m3 := mul_big (i := w / (P * S)) (j := L) ((bw.div R0).big (by decide)) (v.lb.big (by decide))
  have key := Lit.cnt_win (by omega) v.lR (a - j * S) w _ _ rfl rfl
  rw [show a - j * S + w = a + w - j * S by omega] at key
  rw [lk_run h rfl]
  show _ = CR.ok (.int (Lit.cnt (P * S) L (a + w - j * S) - Lit.cnt (P * S) L (a - j * S))) none
  rw [key]
  clear key
  generalize (a - j * S) % (P * S) = g at *
  generalize w % (P * S) = l at *
  generalize hk : w / (P * S) * L = k at *
  unfold dsp at *
  simp only [c_law_lights, evB, evS, evT, ev, evA, evO, evC, Rs.st, Rs.bind, ofO, SR.seq, set0, ofS, setTg, setMany, truR, truD, callR, permD, outR, oldR, nons, List.replicate, lim, evPa, setPa, List.map_cons, List.map_nil, List.cons_append, List.nil_append, List.getElem?_cons_zero, List.getElem?_cons_succ, List.set_cons_zero, List.set_cons_succ]
  have i0 : idxD (.tuple [.int P, .int S, .int L, .str d]) (.int 0) = some (.int P) := rfl
  have i1 : idxD (.tuple [.int P, .int S, .int L, .str d]) (.int 1) = some (.int S) := rfl
  have i2 : idxD (.tuple [.int P, .int S, .int L, .str d]) (.int 2) = some (.int L) := rfl
  simp [i0, i1, i2, m1, m2, m3, p1, p2, p3, o_add, o_sub, int_val, min_val, max_val, evPa, setPa, hk]
def thr (P S L j E N a : Int) : D := if ahd P S L j (a + E) - ahd P S L j a < N then .none else .tuple [.int (ntk P S L j (ahd P S L j a + N - 1) + 1), .int (ntk P S L j (ahd P S L j (a + E) - N))]
theorem lit_tick_val' (h : Lk tbl "lit_tick" 9 3 false c_lit_tick) (v : Val P S L d) {j : Int} (h0 : 0 ≤ j) (h1 : j < P) {A : Int} (hA : Bd 3000 A) : calN tbl (n + 1) "lit_tick" [dsp P S L d, .int j, .int A] = .ok (.int (ntk P S L j A)) none := by
  rw [lk_run h rfl]
  have bj : Bd 4 j := by have := v.p8; unfold Bd; omega
  have l0 : 0 < L := by have := v.l1; omega
  have m1 := divmod_val (i := A) l0 (v.lb.big (by decide))
  have b1 := hA.div l0
  have m2 := mul_big (i := A / L) (j := P) (b1.big (by decide)) (v.pb.big (by decide))
  have m3 := mul_big (i := A / L * P + j) (j := S) (((b1.mul v.pb).add bj).big (by decide)) (v.sb.big (by decide))
  unfold dsp
  simp [c_lit_tick, evB, evS, evT, ev, evA, evO, evC, Rs.st, Rs.bind, ofO, SR.seq, set0, ofS, setTg, setMany, truR, truD, callR, permD, outR, oldR, nons, List.replicate, lim, o_add, m1, m2, m3]
  rfl
theorem within_val (h1 : Lk tbl "lit_ahead" 9 3 false c_lit_ahead) (h2 : Lk tbl "lit_tick" 9 3 false c_lit_tick) (h : Lk tbl "thresholds_within" 8 4 false c_thresholds_within) (v : Val P S L d) {j : Int} (h0 : 0 ≤ j) (h1' : j < P) {E N a : Int} (ba : Bd 999 a) (bE : Bd 998 E) (bN : Bd 2000 N) :
    calN tbl (n + 2) "thresholds_within" [dsp P S L d, cam E N, .int j, .int a] = .ok (thr P S L j E N a) none := by
  have be : Bd 1000 (a + E) := (ba.add bE).up (by decide)
  have e1 := lit_ahead_val (n := n) h1 v h0 h1' (ba.up (by decide))
  have e2 := lit_ahead_val (n := n) h1 v h0 h1' be
  have b1 := ahd_bd v h0 h1' (t := a) (ba.up (by decide))
  have b2 := ahd_bd v h0 h1' be
  have e3 := lit_tick_val' (n := n) h2 v h0 h1' (A := ahd P S L j a + N - 1) (((b1.add bN).sub (show Bd 1 1 by decide)).up (by decide))
  have e4 := lit_tick_val' (n := n) h2 v h0 h1' (A := ahd P S L j (a + E) - N) ((b2.sub bN).up (by decide))
  rw [lk_run h rfl]
  unfold thr
  generalize ahd P S L j a = x at *
  generalize ahd P S L j (a + E) = y at *
  unfold cam
  by_cases q : y - x < N
  · have c1 : cmpD .Lt (.int (y - x)) (.int N) = some true := by rw [c_lt, decide_eq_true q]
    rw [if_pos q]
    clear q
    simp [c_thresholds_within, evB, evS, evT, ev, evA, evO, evC, Rs.st, Rs.bind, ofO, SR.seq, set0, ofS, setTg, setMany, truR, truD, callR, permD, outR, oldR, nons, List.replicate, lim, e1, e2, e3, e4, o_add, o_sub, c1, lim]
  · have c1 : cmpD .Lt (.int (y - x)) (.int N) = some false := by rw [c_lt, decide_eq_false q]
    rw [if_neg q]
    clear q
    simp [c_thresholds_within, evB, evS, evT, ev, evA, evO, evC, Rs.st, Rs.bind, ofO, SR.seq, set0, ofS, setTg, setMany, truR, truD, callR, permD, outR, oldR, nons, List.replicate, lim, e1, e2, e3, e4, o_add, o_sub, c1, lim]
theorem place_thresholds_val (T : Dsp0 tbl) (hc : Lk tbl "check_camera" 3 1 false c_check_camera) (h1 : Lk tbl "lit_ahead" 9 3 false c_lit_ahead) (h2 : Lk tbl "lit_tick" 9 3 false c_lit_tick) (h3 : Lk tbl "thresholds_within" 8 4 false c_thresholds_within) (h : Lk tbl "place_thresholds" 4 4 false c_place_thresholds)
    (v : Val P S L d) {j : Int} (h0 : 0 ≤ j) (h1' : j < P) {E N a : Int} (E1 : 1 ≤ E) (N1 : 1 ≤ N) (ba : Bd 999 a) (bE : Bd 998 E) (bN : Bd 2000 N) : calN tbl (n + 5) "place_thresholds" [dsp P S L d, cam E N, .int j, .int a] = .ok (thr P S L j E N a) none := by
  have e1 := check_display_val (n := n + 1) T v
  have e2 := check_camera_val (n := n + 1) T hc E1 N1
  have e3 := check_place_val (n := n) (S := S) (L := L) (d := d) T h0 h1'
  have e4 := check_tick_val (n := n + 2) T.i1 T.i4 a
  have e5 := within_val (n := n + 2) h1 h2 h3 v h0 h1' ba bE bN
  rw [lk_run h rfl]
  simp [c_place_thresholds, evB, evS, evT, ev, evA, evO, evC, Rs.st, Rs.bind, ofO, SR.seq, set0, ofS, setTg, setMany, truR, truD, callR, permD, outR, oldR, nons, List.replicate, lim, e1, e2, e3, e4, e5]
/-- what the thresholds are -/
theorem thr_facts (v : Val P S L d) (j : Int) {E N a : Int} (N1 : 1 ≤ N) (h : ¬ ahd P S L j (a + E) - ahd P S L j a < N) :
    let f := ntk P S L j (ahd P S L j a + N - 1) + 1
    let l := ntk P S L j (ahd P S L j (a + E) - N)
    a < f ∧ f ≤ a + E ∧ a ≤ l ∧ l < a + E ∧ ahd P S L j f = ahd P S L j a + N ∧ ahd P S L j (f - 1) = ahd P S L j a + N - 1 ∧ ahd P S L j l = ahd P S L j (a + E) - N ∧ ahd P S L j (l + 1) = ahd P S L j (a + E) - N + 1 := by
  have l0 : 0 < L := by have := v.l1; omega
  have mono : ∀ x y : Int, ahd P S L j x < ahd P S L j y → x < y := fun x y q => by
    apply Classical.byContradiction
    intro hn
    have := Lit.cnt_mono l0 v.lR (show y - j * S ≤ x - j * S by omega)
    unfold ahd at q
    omega
  have at_ : ∀ A : Int, ahd P S L j (ntk P S L j A) = A ∧ ahd P S L j (ntk P S L j A + 1) = A + 1 := fun A => by
    obtain ⟨f1, f2, _⟩ := Lit.nth_at l0 v.lR A
    have e := ntk_eq (P := P) (S := S) (L := L) (j := j) (A := A)
    unfold ahd
    refine ⟨by rw [e, f1], ?_⟩
    rw [show ntk P S L j A + 1 - j * S = ntk P S L j A - j * S + 1 by omega, e, Lit.cnt_step l0 v.lR, if_pos f2, f1]
  have ge : ∀ x A : Int, ahd P S L j x ≤ A → x ≤ ntk P S L j A := fun x A q => by
    have := Lit.nth_ge l0 v.lR (show Lit.cnt (P * S) L (x - j * S) ≤ A from q)
    rw [← ntk_eq (j := j)] at this
    omega
  obtain ⟨p1, p2⟩ := at_ (ahd P S L j a + N - 1)
  obtain ⟨p3, p4⟩ := at_ (ahd P S L j (a + E) - N)
  have p5 := ge a (ahd P S L j a + N - 1) (by omega)
  have p6 := ge a (ahd P S L j (a + E) - N) (by omega)
  have p7 := mono (ntk P S L j (ahd P S L j a + N - 1)) (a + E) (by omega)
  have p8 := mono (ntk P S L j (ahd P S L j (a + E) - N)) (a + E) (by omega)
  refine ⟨by omega, by omega, p6, p8, by omega, ?_, p3, p4⟩
  rw [show ntk P S L j (ahd P S L j a + N - 1) + 1 - 1 = ntk P S L j (ahd P S L j a + N - 1) by omega]
  exact p1
end
end Ev

set_option linter.all false
namespace Lit
/-! ## the fewest lit ticks of an exposure -/
def few (R L E : Int) : Int := E / R * L + (if E % R + L - R > 0 then E % R + L - R else 0)
variable {R L : Int}
theorem few_cnt (hL : 0 < L) (hR : L ≤ R) {E : Int} : few R L E = cnt R L (L + E) - cnt R L L := by
  have l0 := Int.emod_nonneg E (show R ≠ 0 by omega)
  have l1 := Int.emod_lt_of_pos E (show 0 < R by omega)
  have ew := split E R
  have hR0 : 0 < R := by omega
  unfold few
  by_cases hLR : L < R
  · have c1 : cnt R L L = L := by
      have := cnt_at (R := R) (L := L) (q := 0) (r := L) (by omega) hLR
      rw [Int.zero_mul, Int.zero_add, Int.zero_mul] at this
      rw [this]
      split <;> omega
    by_cases h : L + E % R < R
    · have c2 := cnt_at (R := R) (L := L) (q := E / R) (r := L + E % R) (by omega) h
      rw [show E / R * R + (L + E % R) = L + E by omega] at c2
      rw [c1, c2]
      split <;> split <;> omega
    · have c2 := cnt_at (R := R) (L := L) (q := E / R + 1) (r := L + E % R - R) (by omega) (by omega)
      rw [show (E / R + 1) * R + (L + E % R - R) = L + E by rw [Int.add_mul]; omega, Int.add_mul] at c2
      rw [c1, c2]
      split <;> split <;> omega
  · have hE : L = R := by omega
    subst hE
    have c1 : cnt L L L = L := by
      have := cnt_at (R := L) (L := L) (q := 1) (r := 0) (by omega) hR0
      simp only [Int.one_mul, Int.add_zero] at this
      rw [this]
      split <;> omega
    have c2 := cnt_at (R := L) (L := L) (q := E / L + 1) (r := E % L) l0 l1
    rw [show (E / L + 1) * L + E % L = L + E by rw [Int.add_mul]; omega, Int.add_mul] at c2
    rw [c1, c2]
    split <;> split <;> omega
theorem few_mono (hL : 0 < L) (hR : L ≤ R) {E F : Int} (h : E ≤ F) : few R L E ≤ few R L F := by
  rw [few_cnt hL hR, few_cnt hL hR]
  have := cnt_mono hL hR (show L + E ≤ L + F by omega)
  omega
theorem few_nonneg (hL : 0 < L) (hR : L ≤ R) {E : Int} (h : 0 ≤ E) : 0 ≤ few R L E := by
  have := Int.mul_nonneg (Int.ediv_nonneg h (show 0 ≤ R by omega)) (show 0 ≤ L by omega)
  unfold few
  split <;> omega
/-- the least exposure -/
def lex (R L N : Int) : Int := ((N - 1) / L + 1) * R - L + ((N - 1) % L + 1)
theorem lex_at (hL : 0 < L) (hR : L ≤ R) (N : Int) : few R L (lex R L N) = N ∧ few R L (lex R L N - 1) = N - 1 := by
  have m0 := Int.emod_nonneg (N - 1) (show L ≠ 0 by omega)
  have m1 := Int.emod_lt_of_pos (N - 1) hL
  have e := split (N - 1) L
  unfold lex
  generalize (N - 1) / L = q at *
  generalize (N - 1) % L = m at *
  rw [Int.add_mul, Int.one_mul]
  constructor
  · by_cases h : m + 1 < L
    · obtain ⟨d1, d2⟩ := div_of (R := R) (u := q * R + R - L + (m + 1)) (q := q) (r := R - L + (m + 1)) (by omega) (by omega) (by omega)
      unfold few
      rw [d1, d2]
      split <;> omega
    · obtain ⟨d1, d2⟩ := div_of (R := R) (u := q * R + R - L + (m + 1)) (q := q + 1) (r := 0) (by omega) (by omega) (by rw [Int.add_mul]; omega)
      unfold few
      rw [d1, d2, Int.add_mul]
      split <;> omega
  · obtain ⟨d1, d2⟩ := div_of (R := R) (u := q * R + R - L + (m + 1) - 1) (q := q) (r := R - L + m) (by omega) (by omega) (by omega)
    unfold few
    rw [d1, d2]
    split <;> omega
theorem lex_iff (hL : 0 < L) (hR : L ≤ R) (N E : Int) : N ≤ few R L E ↔ lex R L N ≤ E := by
  obtain ⟨h1, h2⟩ := lex_at hL hR N
  constructor
  · intro h
    apply Classical.byContradiction
    intro hn
    have := few_mono hL hR (show E ≤ lex R L N - 1 by omega)
    omega
  · intro h
    have := few_mono hL hR h
    omega
theorem lex_pos (hL : 0 < L) (hR : L ≤ R) {N : Int} (hN : 1 ≤ N) : 1 ≤ lex R L N := by
  have m0 := Int.emod_nonneg (N - 1) (show L ≠ 0 by omega)
  have q0 : 0 ≤ (N - 1) / L := Int.ediv_nonneg (by omega) (by omega)
  have := Int.mul_nonneg q0 (show 0 ≤ R by omega)
  unfold lex
  rw [Int.add_mul]
  omega
/-- the least integer not below a quotient -/
def ceil (x k : Int) : Int := -(-x / k)
theorem ceil_le {x k l : Int} (hk : 0 < k) : ceil x k ≤ l ↔ x ≤ l * k := by
  unfold ceil
  have := Int.le_ediv_iff_mul_le (a := -l) (b := -x) hk
  rw [Int.neg_mul] at this
  omega
/-- the least lit -/
def llit (R E N : Int) : Int := if E / R > 0 then (if ceil N (E / R) < ceil (N + (R - E % R)) (E / R + 1) then ceil N (E / R) else ceil (N + (R - E % R)) (E / R + 1)) else ceil (N + (R - E % R)) (E / R + 1)
theorem llit_iff (hR : 0 < R) {E N l : Int} (hE : 0 ≤ E) (hN : 1 ≤ N) : N ≤ few R l E ↔ llit R E N ≤ l := by
  have q0 : 0 ≤ E / R := Int.ediv_nonneg hE (by omega)
  have l0 := Int.emod_nonneg E (show R ≠ 0 by omega)
  have l1 := Int.emod_lt_of_pos E hR
  unfold few llit
  have c2 := ceil_le (x := N + (R - E % R)) (k := E / R + 1) (l := l) (by omega)
  rw [Int.mul_add, Int.mul_one, Int.mul_comm l (E / R)] at c2
  by_cases h : E / R > 0
  · rw [if_pos h]
    have c1 := ceil_le (x := N) (k := E / R) (l := l) h
    rw [Int.mul_comm l (E / R)] at c1
    generalize E / R * l = z at *
    generalize ceil N (E / R) = a at *
    generalize ceil (N + (R - E % R)) (E / R + 1) = b at *
    split <;> split <;> omega
  · rw [if_neg h]
    have e0 : E / R = 0 := by omega
    rw [e0] at c2 ⊢
    rw [Int.zero_mul] at c2 ⊢
    generalize ceil (N + (R - E % R)) (0 + 1) = b at *
    split <;> omega
theorem llit_pos (hR : 0 < R) {E N : Int} (hE : 0 ≤ E) (hN : 1 ≤ N) : 1 ≤ llit R E N := by
  have l0 := Int.emod_nonneg E (show R ≠ 0 by omega)
  have l1 := Int.emod_lt_of_pos E hR
  have h := llit_iff hR (l := 0) hE hN
  have : ¬ N ≤ few R 0 E := by
    unfold few
    rw [Int.mul_zero]
    split <;> omega
  omega
/-- the greatest slot -/
def gsl (P L E N : Int) : Int := (E + L - ((N - 1) % L + 1)) / (((N - 1) / L + 1) * P)
theorem gsl_iff {P : Int} (hP : 0 < P) (hL : 0 < L) {s : Int} (hs : L ≤ s) {E N : Int} (hN : 1 ≤ N) : N ≤ few (P * s) L E ↔ s ≤ gsl P L E N := by
  have q0 : 0 ≤ (N - 1) / L := Int.ediv_nonneg (by omega) (by omega)
  have hR := (SR hP (show 0 < s by omega)).1
  rw [lex_iff hL (by omega)]
  unfold lex gsl
  have hk : 0 < ((N - 1) / L + 1) * P := Int.mul_pos (by omega) hP
  rw [Int.le_ediv_iff_mul_le hk, Int.mul_comm s, Int.mul_assoc]
  omega
end Lit

namespace Lit
/-- ascending stretches with a gap between any two, none before a, none from b on -/
def Can (a b : Int) : List (Int × Int) → Prop
  | [] => True
  | p :: l => a ≤ p.1 ∧ p.1 ≤ p.2 ∧ p.2 < b ∧ Can (p.2 + 2) b l
def inn : List (Int × Int) → Int → Bool
  | [], _ => false
  | p :: l, t => (decide (p.1 ≤ t) && decide (t ≤ p.2)) || inn l t
theorem Can.weak : ∀ {l : List (Int × Int)} {a b a' b' : Int}, Can a b l → a' ≤ a → b ≤ b' → Can a' b' l
  | [], _, _, _, _, _, _, _ => trivial
  | _ :: _, _, _, _, _, h, h1, h2 => ⟨by have := h.1; omega, h.2.1, by have := h.2.2.1; omega, Can.weak h.2.2.2 (Int.le_refl _) h2⟩
theorem Can.out : ∀ {l : List (Int × Int)} {a b t : Int}, Can a b l → t < a → inn l t = false
  | [], _, _, _, _, _ => rfl
  | p :: l, a, b, t, h, ht => by
    obtain ⟨h1, h2, h3, h4⟩ := h
    unfold inn
    rw [h4.out (by omega), decide_eq_false (show ¬ p.1 ≤ t by omega)]
    rfl
/-- integers from a to b - 1 -/
def rg (a b : Int) : List Int := (List.range (b - a).toNat).map fun k : Nat => a + (k : Int)
theorem rg_split {a b c : Int} (h1 : a ≤ b) (h2 : b ≤ c) : rg a c = rg a b ++ rg b c := by
  unfold rg
  rw [show (c - a).toNat = (b - a).toNat + (c - b).toNat by omega, List.range_add, List.map_append, List.map_map]
  congr 1
  refine List.map_congr_left fun k _ => ?_
  show a + (((b - a).toNat + k : Nat) : Int) = b + (k : Int)
  omega
theorem rg_one (a : Int) : rg a (a + 1) = [a] := by
  unfold rg
  rw [show (a + 1 - a).toNat = 1 by omega]
  simp
theorem rg_mem {a b t : Int} : t ∈ rg a b ↔ a ≤ t ∧ t < b := by
  unfold rg
  rw [List.mem_map]
  constructor
  · rintro ⟨k, h1, rfl⟩
    rw [List.mem_range] at h1
    omega
  · intro h
    exact ⟨(t - a).toNat, by rw [List.mem_range]; omega, by omega⟩
/-- the law's step -/
def put (acc : List (Int × Int)) (t : Int) : List (Int × Int) := match acc.getLast? with
  | some p => if p.2 = t - 1 then acc.dropLast ++ [(p.1, t)] else acc ++ [(t, t)]
  | none => acc ++ [(t, t)]
def far (acc : List (Int × Int)) (a : Int) : Prop := match acc.getLast? with
  | some p => p.2 + 1 < a
  | none => True
theorem far_snoc (acc : List (Int × Int)) (p : Int × Int) {a : Int} (h : p.2 + 1 < a) : far (acc ++ [p]) a := by
  unfold far
  rw [List.getLast?_concat]
  exact h
theorem put_far {acc : List (Int × Int)} {t : Int} (h : far acc t) : put acc t = acc ++ [(t, t)] := by
  unfold put
  unfold far at h
  cases q : acc.getLast? with
  | none => rfl
  | some p =>
    rw [q] at h
    dsimp only at h ⊢
    rw [if_neg (by omega)]
theorem put_next (acc : List (Int × Int)) (x t : Int) : put (acc ++ [(x, t - 1)]) t = acc ++ [(x, t)] := by
  unfold put
  rw [List.getLast?_concat]
  dsimp only
  rw [if_pos rfl, List.dropLast_concat]
theorem run_one (acc : List (Int × Int)) {x : Int} (h : far acc x) : ∀ n : Nat, (rg x (x + (n : Int) + 1)).foldl put acc = acc ++ [(x, x + n)]
  | 0 => by
    rw [show x + ((0 : Nat) : Int) + 1 = x + 1 by omega, rg_one, List.foldl_cons, List.foldl_nil, put_far h]
    simp
  | n + 1 => by
    rw [show x + ((n + 1 : Nat) : Int) + 1 = x + (n : Int) + 1 + 1 by omega, rg_split (b := x + (n : Int) + 1) (by omega) (by omega), List.foldl_append, run_one acc h n, rg_one, List.foldl_cons, List.foldl_nil]
    have e := put_next acc x (x + (n : Int) + 1)
    rw [show x + (n : Int) + 1 - 1 = x + n by omega] at e
    rw [e]
    congr 3
    omega
theorem filt_no {p : Int → Bool} {a b : Int} (h : ∀ t, a ≤ t → t < b → p t = false) : (rg a b).filter p = [] := by
  rw [List.filter_eq_nil_iff]
  intro x hx
  obtain ⟨h1, h2⟩ := rg_mem.mp hx
  rw [h x h1 h2]
  exact Bool.false_ne_true
theorem filt_yes {p : Int → Bool} {a b : Int} (h : ∀ t, a ≤ t → t < b → p t = true) : (rg a b).filter p = rg a b := by
  rw [List.filter_eq_self]
  intro x hx
  obtain ⟨h1, h2⟩ := rg_mem.mp hx
  exact h x h1 h2
theorem filt_same {p q : Int → Bool} {a b : Int} (h : ∀ t, a ≤ t → t < b → p t = q t) : (rg a b).filter p = (rg a b).filter q :=
  List.filter_congr fun x hx => by
    obtain ⟨h1, h2⟩ := rg_mem.mp hx
    exact h x h1 h2
/-- the law's stretches of a filtered range -/
theorem runs : ∀ {l : List (Int × Int)} {a b : Int} {acc : List (Int × Int)}, Can a b l → far acc a → ((rg a b).filter (inn l)).foldl put acc = acc ++ l
  | [], a, b, acc, _, _ => by
    rw [filt_no (p := inn []) (fun _ _ _ => rfl)]
    simp
  | p :: l, a, b, acc, h, hf => by
    obtain ⟨h1, h2, h3, h4⟩ := h
    have e0 : ∀ t, p.2 < t → inn (p :: l) t = inn l t := fun t ht => by
      rw [inn, decide_eq_false (show ¬ t ≤ p.2 by omega), Bool.and_false, Bool.false_or]
    have a1 : (rg a p.1).filter (inn (p :: l)) = [] := filt_no fun t t1 t2 => by
      unfold inn
      rw [h4.out (by omega), decide_eq_false (show ¬ p.1 ≤ t by omega)]
      rfl
    have a2 : (rg p.1 (p.2 + 1)).filter (inn (p :: l)) = rg p.1 (p.2 + 1) := filt_yes fun t t1 t2 => by
      unfold inn
      rw [decide_eq_true t1, decide_eq_true (show t ≤ p.2 by omega)]
      rfl
    have hfx : far acc p.1 := by
      unfold far at hf ⊢
      cases q : acc.getLast? with
      | none => trivial
      | some r => rw [q] at hf; dsimp only at hf ⊢; omega
    have a3 := run_one acc hfx (p.2 - p.1).toNat
    rw [show p.1 + ((p.2 - p.1).toNat : Int) = p.2 by omega] at a3
    rw [rg_split (b := p.1) h1 (by omega), List.filter_append, a1, List.nil_append, rg_split (a := p.1) (b := p.2 + 1) (by omega) (by omega), List.filter_append, a2, List.foldl_append, a3]
    by_cases q : p.2 + 1 < b
    · have a4 : (rg (p.2 + 1) (p.2 + 2)).filter (inn (p :: l)) = [] := filt_no fun t t1 t2 => by
        rw [e0 t (by omega), h4.out (by omega)]
      rw [rg_split (a := p.2 + 1) (b := p.2 + 2) (by omega) (by omega), List.filter_append, a4, List.nil_append, filt_same (q := inn l) (fun t t1 _ => e0 t (by omega)), runs h4 (far_snoc acc (p.1, p.2) (by show p.2 + 1 < _; omega)), List.append_assoc]
      rfl
    · have hl : l = [] := by
        cases l with
        | nil => rfl
        | cons r l => obtain ⟨g1, g2, g3, _⟩ := h4; omega
      rw [show rg (p.2 + 1) b = [] by unfold rg; rw [show (b - (p.2 + 1)).toNat = 0 by omega]; rfl, hl]
      rfl
theorem Can.uniq {l m : List (Int × Int)} {a b : Int} (h : Can a b l) (g : Can a b m) (e : ∀ t, a ≤ t → t < b → inn l t = inn m t) : l = m := by
  have h1 := runs (acc := []) h trivial
  have g1 := runs (acc := []) g trivial
  rw [filt_same e, g1] at h1
  simpa using h1.symm
/-! what two lists have in common -/
def cap (p q : Int × Int) : Int × Int := (if q.1 > p.1 then q.1 else p.1, if q.2 < p.2 then q.2 else p.2)
def meets (p q : Int × Int) : Bool := decide (p.1 ≤ q.2) && decide (q.1 ≤ p.2)
def pcs (p : Int × Int) (m : List (Int × Int)) : List (Int × Int) := (m.filter (meets p)).map (cap p)
def com (l m : List (Int × Int)) : List (Int × Int) := l.flatMap fun p => pcs p m
theorem pcs_cons (p q : Int × Int) (m : List (Int × Int)) : pcs p (q :: m) = if meets p q = true then cap p q :: pcs p m else pcs p m := by
  unfold pcs
  rw [List.filter_cons]
  split <;> simp
theorem pcs_can {p : Int × Int} (hp : p.1 ≤ p.2) : ∀ {m : List (Int × Int)} {a b : Int}, Can a b m → ∀ {c : Int}, c ≤ a ∨ c ≤ p.1 → Can c (p.2 + 1) (pcs p m) ∧ Can c b (pcs p m)
  | [], _, _, _, _, _ => ⟨trivial, trivial⟩
  | q :: m, a, b, h, c, hc => by
    obtain ⟨h1, h2, h3, h4⟩ := h
    rw [pcs_cons]
    by_cases k : meets p q = true
    · rw [if_pos k]
      unfold meets at k
      rw [Bool.and_eq_true, decide_eq_true_eq, decide_eq_true_eq] at k
      obtain ⟨x1, x2⟩ := pcs_can hp h4 (c := (cap p q).2 + 2) (by left; unfold cap; dsimp only; split <;> omega)
      unfold cap at *
      dsimp only at *
      refine ⟨⟨?_, ?_, ?_, x1⟩, ⟨?_, ?_, ?_, x2⟩⟩ <;> dsimp only <;> repeat' split
      all_goals omega
    · rw [if_neg k]
      exact pcs_can hp h4 (by omega)
theorem pcs_inn (p : Int × Int) : ∀ (m : List (Int × Int)) (t : Int), inn (pcs p m) t = (decide (p.1 ≤ t) && decide (t ≤ p.2) && inn m t)
  | [], t => by simp [pcs, inn]
  | q :: m, t => by
    rw [pcs_cons]
    have ih := pcs_inn p m t
    by_cases k : meets p q = true
    · rw [if_pos k]
      unfold meets at k
      rw [Bool.and_eq_true, decide_eq_true_eq, decide_eq_true_eq] at k
      rw [inn, ih, inn, Bool.eq_iff_iff]
      unfold cap
      simp only [Bool.or_eq_true, Bool.and_eq_true, decide_eq_true_eq]
      cases inn m t <;> simp <;> repeat' split
      all_goals omega
    · rw [if_neg k]
      have k' : ¬ (p.1 ≤ q.2 ∧ q.1 ≤ p.2) := fun h => k (by unfold meets; rw [Bool.and_eq_true, decide_eq_true_eq, decide_eq_true_eq]; exact h)
      rw [ih, inn, Bool.eq_iff_iff]
      simp only [Bool.or_eq_true, Bool.and_eq_true, decide_eq_true_eq]
      cases inn m t <;> simp
      omega
theorem inn_app : ∀ (l m : List (Int × Int)) (t : Int), inn (l ++ m) t = (inn l t || inn m t)
  | [], m, t => by simp [inn]
  | p :: l, m, t => by
    rw [List.cons_append, inn, inn, inn_app l m t, Bool.or_assoc]
theorem com_inn : ∀ (l m : List (Int × Int)) (t : Int), inn (com l m) t = (inn l t && inn m t)
  | [], m, t => by simp [com, inn]
  | p :: l, m, t => by
    have ih := com_inn l m t
    unfold com at ih ⊢
    rw [List.flatMap_cons, inn_app, ih, pcs_inn, inn]
    cases inn m t <;> simp
theorem Can.app : ∀ {l m : List (Int × Int)} {a b c : Int}, Can a c l → Can (c + 1) b m → (∀ _ : l ≠ [], c ≤ b) → a ≤ c + 1 → Can a b (l ++ m)
  | [], m, a, b, c, _, h2, _, h => h2.weak h (Int.le_refl _)
  | p :: l, m, a, b, c, h1, h2, h3, h => by
    obtain ⟨g1, g2, g3, g4⟩ := h1
    have := h3 (by simp)
    exact ⟨g1, g2, by omega, Can.app g4 h2 (fun _ => this) (by omega)⟩
theorem com_can {b : Int} : ∀ {l m : List (Int × Int)} {a c : Int}, Can a b l → Can c b m → Can a b (com l m)
  | [], m, a, c, _, _ => trivial
  | p :: l, m, a, c, h, g => by
    obtain ⟨h1, h2, h3, h4⟩ := h
    have ih := com_can h4 g
    obtain ⟨x1, x2⟩ := pcs_can h2 g (c := p.1) (.inr (Int.le_refl _))
    show Can a b (pcs p m ++ com l m)
    refine Can.app (c := p.2 + 1) (x1.weak h1 (Int.le_refl _)) (ih.weak (by omega) (Int.le_refl _)) (fun _ => by omega) (by omega)
end Lit

set_option linter.all false
namespace Lit
/-! ## which of the begins a period apart is in a stretch first, and how many are -/
variable {a p m s l h k : Int}
def Bet (l h x : Int) : Prop := l ≤ x ∧ x ≤ h
def Fst (s m l h : Int) : Option Int → Prop
  | some k => 0 ≤ k ∧ Bet l h (k * s % m) ∧ ∀ j, 0 ≤ j → j < k → ¬Bet l h (j * s % m)
  | none => ∀ j, 0 ≤ j → ¬Bet l h (j * s % m)
theorem per (j s m : Int) : (j - m) * s % m = j * s % m := by
  rw [Int.sub_mul, Int.mul_comm m s, Int.sub_mul_emod_self_right]
theorem fst_lt (hm : 0 < m) (f : Fst s m l h (some k)) : k < m := by
  obtain ⟨h0, h1, h2⟩ := f
  refine Int.lt_of_not_ge fun q => ?_
  refine h2 (k - m) (by omega) (by omega) ?_
  rw [per]
  exact h1
theorem fst_red {o : Option Int} : Fst (s % m) m l h o → Fst s m l h o := by
  have e : ∀ j : Int, j * (s % m) % m = j * s % m := fun j => by rw [Int.mul_emod, Int.emod_emod_of_dvd _ (Int.dvd_refl m), ← Int.mul_emod]
  cases o with
  | none => intro f j hj; rw [← e]; exact f j hj
  | some k => rintro ⟨h0, h1, h2⟩; refine ⟨h0, by rw [← e]; exact h1, fun j a b => by rw [← e]; exact h2 j a b⟩
theorem fst_zero (h0 : 0 ≤ h) (hl : l = 0) : Fst s m l h (some 0) := by
  subst hl
  refine ⟨Int.le_refl _, ?_, fun j a b => by omega⟩
  rw [Int.zero_mul, Int.zero_emod]
  exact ⟨Int.le_refl _, h0⟩
theorem fst_none (hl : 0 < l) (hs : s = 0) : Fst s m l h none := by
  intro j _ q
  subst hs
  rw [Int.mul_zero, Int.zero_emod] at q
  have := q.1
  omega
/-- rounded up -/
def up (x y : Int) : Int := -(-x / y)
theorem up_le (hy : 0 < k) {x j : Int} : up x k ≤ j ↔ x ≤ j * k := by
  unfold up
  constructor
  · intro q
    have q2 : -j ≤ -x / k := by omega
    have := (Int.le_ediv_iff_mul_le hy).mp q2
    rw [Int.neg_mul] at this
    omega
  · intro q
    have : -j ≤ -x / k := (Int.le_ediv_iff_mul_le hy).mpr (by rw [Int.neg_mul]; omega)
    omega
theorem up_nn (hy : 0 < k) {x : Int} (hx : 0 ≤ x) : 0 ≤ up x k := by
  refine Int.le_of_not_gt fun q => ?_
  have := (up_le hy (x := x) (j := -1)).mp (by omega)
  rw [Int.neg_mul] at this
  omega
theorem up_at (hy : 0 < k) (x : Int) : x ≤ up x k * k ∧ up x k * k < x + k := by
  have e := Int.mul_ediv_add_emod (-x) k
  have h0 := Int.emod_nonneg (-x) (show k ≠ 0 by omega)
  have h1 := Int.emod_lt_of_pos (-x) hy
  unfold up
  rw [Int.neg_mul, Int.mul_comm]
  omega
/-- a multiple of the step is between them -/
theorem fst_brk (hs : 0 < s) (hl : 0 ≤ l) (hh : h < m) (hb : l ≤ h / s * s) : Fst s m l h (some (up l s)) := by
  have e := Int.mul_ediv_add_emod h s
  have h0 := Int.emod_nonneg h (show s ≠ 0 by omega)
  rw [Int.mul_comm] at e
  have u := up_at hs l
  have q : up l s ≤ h / s := (up_le hs).mpr hb
  have q2 : up l s * s ≤ h := by
    have := Int.mul_le_mul_of_nonneg_right q (show 0 ≤ s by omega)
    omega
  refine ⟨up_nn hs hl, ?_, fun j a b => ?_⟩
  · rw [Int.emod_eq_of_lt (by omega) (by omega)]
    exact ⟨u.1, q2⟩
  · have n1 : ¬l ≤ j * s := fun z => by
      have := (up_le hs).mpr z
      omega
    have n0 : 0 ≤ j * s := Int.mul_nonneg a (by omega)
    rw [Int.emod_eq_of_lt n0 (by omega)]
    exact fun z => n1 z.1
theorem emod_neg' {s x : Int} (a : 0 < x % s) (b : x % s < s) (e : x / s * s + x % s = x) : -x % s = s - x % s :=
  (div_of (q := -(x / s) - 1) (by omega) (by omega) (by rw [Int.sub_mul, Int.neg_mul]; omega)).2
/-- what is missing to a multiple of the step -/
theorem miss (hs : 0 < s) (x : Int) (h1 : 0 ≤ x) (hb : x / s * s < l) (hlx : l ≤ x) : x % s ≤ x - l + s ∧ -x % s = s - x % s ∧ 0 < x % s := by
  have e := Int.mul_ediv_add_emod x s
  have h0 := Int.emod_nonneg x (show s ≠ 0 by omega)
  have h2 := Int.emod_lt_of_pos x hs
  rw [Int.mul_comm] at e
  refine ⟨by omega, ?_, by omega⟩
  exact emod_neg' (by omega) (by omega) e
structure Nxt (s m l h : Int) : Prop where
  s1 : 0 < s
  sm : s < m
  l1 : 0 < l
  lh : l ≤ h
  hm : h < m
  no : h / s * s < l
theorem Nxt.ends (N : Nxt s m l h) : -h % s = s - h % s ∧ -l % s = s - l % s ∧ l / s = h / s ∧ 0 < l % s ∧ h % s < s := by
  obtain ⟨a, b, c, d, e, f⟩ := N
  have eh := Int.mul_ediv_add_emod h s
  have h0 := Int.emod_nonneg h (show s ≠ 0 by omega)
  have h2 := Int.emod_lt_of_pos h a
  rw [Int.mul_comm] at eh
  have hl : l / s = h / s ∧ l % s = l - h / s * s := div_of (by omega) (by omega) (by omega)
  have e1 := emod_neg' (show 0 < h % s by omega) h2 eh
  have el := Int.mul_ediv_add_emod l s
  rw [Int.mul_comm] at el
  have e2 := emod_neg' (show 0 < l % s by omega) (Int.emod_lt_of_pos l a) el
  exact ⟨e1, e2, hl.1, by omega, h2⟩
/-- the new question is well asked -/
theorem Nxt.new (N : Nxt s m l h) : 0 < -h % s ∧ -h % s ≤ -l % s ∧ -l % s < s := by
  have E := N.ends
  obtain ⟨e1, e2, e3, e4, e5⟩ := E
  obtain ⟨a, b, c, d, e, f⟩ := N
  have el := Int.mul_ediv_add_emod l s
  have eh := Int.mul_ediv_add_emod h s
  rw [e3] at el
  omega
/-- how often one goes round -/
theorem Nxt.iff (N : Nxt s m l h) (q : Int) : Bet (-h % s) (-l % s) (q * m % s) ↔ up (l + q * m) s * s ≤ h + q * m := by
  obtain ⟨e1, e2, e3, e4, e5⟩ := N.ends
  obtain ⟨a, b, c, d, e, f⟩ := N
  have el := Int.mul_ediv_add_emod l s
  have eh := Int.mul_ediv_add_emod h s
  rw [e3] at el
  have u := up_at a (l + q * m)
  have eq := Int.mul_ediv_add_emod (q * m) s
  have q0 := Int.emod_nonneg (q * m) (show s ≠ 0 by omega)
  have q1 := Int.emod_lt_of_pos (q * m) a
  rw [e1, e2]
  unfold Bet
  rw [Int.mul_comm] at el eh eq
  have l0 := Int.emod_nonneg l (show s ≠ 0 by omega)
  generalize q * m % s = r at *
  generalize q * m / s = t at *
  generalize h / s = g at *
  generalize h % s = x at *
  generalize l % s = y at *
  generalize q * m = w at *
  -- l + w = (g + t) s + y + r
  have k1 : l + w = (g + t) * s + (y + r) := by rw [Int.add_mul]; omega
  have hu : up (l + w) s = if y + r ≤ s then g + t + 1 else g + t + 2 := by
    split
    · have A : up (l + w) s ≤ g + t + 1 := (up_le a).mpr (by rw [k1, show (g + t + 1) * s = (g + t) * s + s by rw [Int.add_mul (g + t) 1, Int.one_mul]]; omega)
      have B : ¬up (l + w) s ≤ g + t := fun z => by have := (up_le a).mp z; omega
      omega
    · have A : up (l + w) s ≤ g + t + 2 := (up_le a).mpr (by rw [k1, show (g + t + 2) * s = (g + t) * s + 2 * s by rw [Int.add_mul (g + t) 2]]; omega)
      have B : ¬up (l + w) s ≤ g + t + 1 := fun z => by
        have := (up_le a).mp z
        rw [k1, show (g + t + 1) * s = (g + t) * s + s by rw [Int.add_mul (g + t) 1, Int.one_mul]] at this
        omega
      omega
  have gt1 : (g + t) * s = g * s + t * s := Int.add_mul _ _ _
  rw [hu]
  split
  · rw [show (g + t + 1) * s = (g + t) * s + s by rw [Int.add_mul (g + t) 1, Int.one_mul]]
    omega
  · rw [show (g + t + 2) * s = (g + t) * s + 2 * s by rw [Int.add_mul (g + t) 2]]
    omega
theorem Nxt.back (N : Nxt s m l h) {q : Int} (f : Fst m s (-h % s) (-l % s) (some q)) : Fst s m l h (some (up (l + q * m) s)) := by
  obtain ⟨f0, f1, f2⟩ := f
  have i1 := (N.iff q).mp f1
  have iq := fun j => N.iff j
  obtain ⟨a, b, c, d, e, g⟩ := N
  have u := up_at a (l + q * m)
  have qm : 0 ≤ q * m := Int.mul_nonneg f0 (by omega)
  refine ⟨up_nn a (by omega), ?_, fun j j0 j1 w => ?_⟩
  · rw [(div_of (q := q) (r := up (l + q * m) s * s - q * m) (R := m) (by omega) (by omega) (by omega)).2]
    exact ⟨by omega, by omega⟩
  · have ej := Int.mul_ediv_add_emod (j * s) m
    rw [Int.mul_comm m] at ej
    obtain ⟨w1, w2⟩ := w
    have js : 0 ≤ j * s := Int.mul_nonneg j0 (by omega)
    have t0 : 0 ≤ j * s / m := Int.ediv_nonneg js (by omega)
    have hle : up (l + j * s / m * m) s ≤ j := (up_le a).mpr (by omega)
    have hb : up (l + j * s / m * m) s * s ≤ h + j * s / m * m := by
      have := Int.mul_le_mul_of_nonneg_right hle (show 0 ≤ s by omega)
      omega
    by_cases z : j * s / m < q
    · exact f2 _ t0 z ((iq _).mpr hb)
    · have : q * m ≤ j * s / m * m := Int.mul_le_mul_of_nonneg_right (by omega) (by omega)
      have nj : ¬up (l + q * m) s ≤ j := by omega
      exact nj ((up_le a).mpr (by omega))
theorem Nxt.backN (N : Nxt s m l h) (f : Fst m s (-h % s) (-l % s) none) : Fst s m l h none := by
  have iq := fun j => N.iff j
  obtain ⟨a, b, c, d, e, g⟩ := N
  intro j j0 w
  have ej := Int.mul_ediv_add_emod (j * s) m
  rw [Int.mul_comm m] at ej
  obtain ⟨w1, w2⟩ := w
  have js : 0 ≤ j * s := Int.mul_nonneg j0 (by omega)
  have t0 : 0 ≤ j * s / m := Int.ediv_nonneg js (by omega)
  have hle : up (l + j * s / m * m) s ≤ j := (up_le a).mpr (by omega)
  have hb : up (l + j * s / m * m) s * s ≤ h + j * s / m * m := by
    have := Int.mul_le_mul_of_nonneg_right hle (show 0 ≤ s by omega)
    omega
  exact f _ t0 ((iq _).mpr hb)
/-- twice on, and the module is less than half -/
theorem half (hs : 0 < s) (hm : s < m) {K : Nat} (hk : m * s < 2 ^ K) : ∃ K', K = K' + 1 ∧ s * (m % s) < 2 ^ K' := by
  have h0 := Int.emod_nonneg m (show s ≠ 0 by omega)
  have h1 := Int.emod_lt_of_pos m hs
  have e := Int.mul_ediv_add_emod m s
  have hq : 1 ≤ m / s := Int.le_ediv_of_mul_le hs (by omega)
  have h2 : 2 * (m % s) ≤ m := by
    have : s * 1 ≤ s * (m / s) := Int.mul_le_mul_of_nonneg_left hq (by omega)
    omega
  have h3 : s * (2 * (m % s)) ≤ s * m := Int.mul_le_mul_of_nonneg_left h2 (by omega)
  rw [Int.mul_comm m s] at hk
  cases K with
  | zero =>
    have : 0 < s * m := Int.mul_pos hs (by omega)
    simp at hk
    omega
  | succ K =>
    refine ⟨K, rfl, ?_⟩
    rw [Int.pow_succ] at hk
    have : s * (2 * (m % s)) = 2 * (s * (m % s)) := by rw [← Int.mul_assoc, Int.mul_comm s 2, Int.mul_assoc]
    omega
/-! ## sums -/
def sm (f : Nat → Int) : Nat → Int
  | 0 => 0
  | n + 1 => sm f n + f n
theorem sm_congr {f g : Nat → Int} : ∀ {n : Nat}, (∀ i, i < n → f i = g i) → sm f n = sm g n
  | 0, _ => rfl
  | n + 1, h => by rw [sm, sm, sm_congr fun i hi => h i (by omega), h n (by omega)]
theorem sm_add (f g : Nat → Int) : ∀ n, sm (fun i => f i + g i) n = sm f n + sm g n
  | 0 => rfl
  | n + 1 => by simp only [sm]; rw [sm_add f g n]; omega
theorem sm_sub (f g : Nat → Int) : ∀ n, sm (fun i => f i - g i) n = sm f n - sm g n
  | 0 => rfl
  | n + 1 => by simp only [sm]; rw [sm_sub f g n]; omega
theorem sm_mul (c : Int) (f : Nat → Int) : ∀ n, sm (fun i => c * f i) n = c * sm f n
  | 0 => by simp [sm]
  | n + 1 => by simp only [sm]; rw [sm_mul c f n, Int.mul_add]
theorem sm_const (c : Int) : ∀ n : Nat, sm (fun _ => c) n = n * c
  | 0 => by simp [sm]
  | n + 1 => by simp only [sm]; rw [sm_const c n, Int.natCast_succ, Int.add_mul, Int.one_mul]
theorem sm_id : ∀ n : Nat, 2 * sm (fun i => (i : Int)) n = n * ((n : Int) - 1)
  | 0 => rfl
  | n + 1 => by
    simp only [sm]
    rw [Int.mul_add, sm_id n, Int.natCast_succ, show (n : Int) + 1 - 1 = n by omega, Int.add_mul, Int.mul_sub]
    omega
theorem sm_nn {f : Nat → Int} (h : ∀ i, 0 ≤ f i) : ∀ n, 0 ≤ sm f n
  | 0 => Int.le_refl _
  | n + 1 => by have := sm_nn h n; have := h n; simp only [sm]; omega
/-- the sum of the floors -/
def SF (a b m : Int) (n : Nat) : Int := sm (fun k => (a + k * b) / m) n
theorem SF_red (hm : 0 < m) (a b : Int) (n : Nat) : SF a b m n = (n : Int) * ((n : Int) - 1) / 2 * (b / m) + n * (a / m) + SF (a % m) (b % m) m n := by
  have e : ∀ k : Int, (a + k * b) / m = k * (b / m) + a / m + (a % m + k * (b % m)) / m := fun k => by
    have ea := Int.mul_ediv_add_emod a m
    have eb := Int.mul_ediv_add_emod b m
    have : a + k * b = (a % m + k * (b % m)) + (k * (b / m) + a / m) * m := by
      have h1 : k * b = k * (m * (b / m)) + k * (b % m) := by rw [← Int.mul_add, eb]
      have h2 : (k * (b / m) + a / m) * m = k * (m * (b / m)) + m * (a / m) := by rw [Int.add_mul, Int.mul_assoc, Int.mul_comm (b / m) m, Int.mul_comm (a / m) m]
      rw [h1, h2]
      omega
    rw [this, Int.add_mul_ediv_right _ _ (by omega)]
    omega
  have c := sm_id n
  unfold SF
  rw [sm_congr (g := fun k => (b / m * (k : Int) + a / m) + (a % m + k * (b % m)) / m) fun i _ => by rw [e, Int.mul_comm (b / m)], sm_add, sm_add, sm_mul, sm_const]
  rw [← c, Int.mul_ediv_cancel_left _ (by omega), Int.mul_comm (b / m)]
/-- counted the other way round -/
theorem SF_swap {a b m : Int} (hb : 0 < b) (hm : b < m) (ha : 0 ≤ a) (ham : a < m) : ∀ n : Nat, SF a b m n = SF ((a + b * n) % m) m b ((a + b * n) / m).toNat
  | 0 => by
    have : (a + b * ((0 : Nat) : Int)) / m = 0 := by
      rw [show b * ((0 : Nat) : Int) = 0 by simp, Int.add_zero]
      exact Int.ediv_eq_zero_of_lt ha ham
    rw [this]
    rfl
  | n + 1 => by
    have ih := SF_swap hb hm ha ham n
    have es : SF a b m (n + 1) = SF a b m n + (a + b * n) / m := by
      show sm _ _ + (a + (n : Int) * b) / m = _
      rw [Int.mul_comm (n : Int) b]
      rfl
    rw [es, ih]
    have ex : a + b * ((n + 1 : Nat) : Int) = a + b * n + b := by rw [Int.natCast_succ, Int.mul_add, Int.mul_one]; omega
    rw [ex]
    have x0 : 0 ≤ a + b * n := by have := Int.mul_nonneg (show 0 ≤ b by omega) (show (0 : Int) ≤ n by omega); omega
    generalize a + b * (n : Int) = x at *
    have e := Int.mul_ediv_add_emod x m
    have r0 := Int.emod_nonneg x (show m ≠ 0 by omega)
    have r1 := Int.emod_lt_of_pos x (show 0 < m by omega)
    have q0 : 0 ≤ x / m := Int.ediv_nonneg x0 (by omega)
    rw [Int.mul_comm] at e
    generalize x / m = N at *
    generalize x % m = r at *
    obtain ⟨N, rfl⟩ := Int.eq_ofNat_of_zero_le q0
    have key : ∀ (i : Nat), SF (r + b) m b i = SF r m b i + i := fun i => by
      unfold SF
      rw [sm_congr (g := fun k => (r + (k : Int) * m) / b + 1) fun j _ => by rw [show r + b + (j : Int) * m = r + (j : Int) * m + b by omega, Int.add_ediv_of_dvd_right (Int.dvd_refl b), Int.ediv_self (by omega)], sm_add, sm_const, Int.mul_one]
    by_cases c : r + b < m
    · have d := div_of (u := x + b) (q := (N : Int)) (r := r + b) (R := m) (by omega) c (by omega)
      rw [d.1, d.2, show (N : Int).toNat = N by omega, key]
    · have d := div_of (u := x + b) (q := (N : Int) + 1) (r := r + b - m) (R := m) (by omega) (by omega) (by rw [Int.add_mul, Int.one_mul]; omega)
      rw [d.1, d.2, show ((N : Int) + 1).toNat = N + 1 by omega, show (N : Int).toNat = N by omega]
      have shift : ∀ i : Nat, SF (r + b - m) m b (i + 1) = (r + b - m) / b + SF (r + b) m b i := fun i => by
        induction i with
        | zero => simp [SF, sm]
        | succ i ih =>
          have e1 : SF (r + b - m) m b (i + 1 + 1) = SF (r + b - m) m b (i + 1) + (r + b - m + ((i + 1 : Nat) : Int) * m) / b := rfl
          have e2 : SF (r + b) m b (i + 1) = SF (r + b) m b i + (r + b + (i : Int) * m) / b := rfl
          rw [e1, ih, e2, show r + b - m + ((i + 1 : Nat) : Int) * m = r + b + (i : Int) * m by rw [Int.natCast_succ, Int.add_mul, Int.one_mul]; omega]
          omega
      have z : (r + b - m) / b = 0 := Int.ediv_eq_zero_of_lt (by omega) (by omega)
      rw [shift, z, key]
      simp
/-- in or not -/
def ind (l h x : Int) : Int := if Bet' l h x then 1 else 0
where Bet' (l h x : Int) : Bool := decide (l ≤ x) && decide (x ≤ h)
theorem floor_ind (hm : 0 < m) (l0 : 0 ≤ l) (lh : l ≤ h + 1) (hh : h < m) (x : Int) : (x - l) / m - (x - h - 1) / m = ind l h (x % m) := by
  have e := Int.mul_ediv_add_emod x m
  have r0 := Int.emod_nonneg x (show m ≠ 0 by omega)
  have r1 := Int.emod_lt_of_pos x hm
  rw [Int.mul_comm] at e
  have lo : ∀ y, 0 ≤ y → y ≤ m → (x - y) / m = if x % m < y then x / m - 1 else x / m := fun y y0 y1 => by
    split
    · exact (div_of (r := x % m - y + m) (by omega) (by omega) (by rw [Int.sub_mul, Int.one_mul]; omega)).1
    · exact (div_of (r := x % m - y) (by omega) (by omega) (by omega)).1
  rw [lo l l0 (by omega), show x - h - 1 = x - (h + 1) by omega, lo (h + 1) (by omega) (by omega)]
  unfold ind ind.Bet'
  generalize x % m = r at *
  generalize x / m = q at *
  by_cases c1 : r < l
  · rw [if_pos c1, if_pos (by omega), decide_eq_false (by omega)]; simp
  · rw [if_neg c1, decide_eq_true (by omega)]
    by_cases c2 : r < h + 1
    · rw [if_pos c2, decide_eq_true (by omega)]; simp; omega
    · rw [if_neg c2, decide_eq_false (by omega)]; simp
theorem cnt_ind (hm : 0 < m) (l0 : 0 ≤ l) (lh : l ≤ h + 1) (hh : h < m) (a b : Int) (n : Nat) : SF (a - l) b m n - SF (a - h - 1) b m n = sm (fun k => ind l h ((a + k * b) % m)) n := by
  unfold SF
  rw [← sm_sub]
  refine sm_congr fun i _ => ?_
  rw [← floor_ind hm l0 lh hh, show a - l + (i : Int) * b = a + (i : Int) * b - l by omega, show a - h - 1 + (i : Int) * b = a + (i : Int) * b - h - 1 by omega]
theorem ind_01 (l h x : Int) : ind l h x = 0 ∨ ind l h x = 1 := by unfold ind; split <;> simp
theorem ind_one {l h x : Int} : ind l h x = 1 ↔ Bet l h x := by
  unfold ind ind.Bet' Bet
  simp only [Bool.and_eq_true, decide_eq_true_eq]
  by_cases q : l ≤ x ∧ x ≤ h
  · rw [if_pos q]; simp [q]
  · rw [if_neg q]; simp only [Int.reduceEq, false_iff, reduceCtorEq]; first | exact q | simpa using q
end Lit

set_option Elab.async false
set_option linter.all false
set_option maxRecDepth 100000
set_option maxHeartbeats 4000000
namespace Ev
set_option exponentiation.threshold 5000
open PySem PySem.Spec PyProof.Rows L2 PySem.W
local macro_rules | `(tactic| walk_at "set") => `(tactic| (repeat (with_reducible refine' set_s ?_)); exact set_z)
local macro_rules | `(tactic| walk_at "bd") => `(tactic| first
  | assumption
  | exact Bd.lit (k := 400) (by decide +kernel)
  | ((with_reducible refine' Bd.add ?b1 ?b2); (case b1 => walk_at "bd"); (case b2 => walk_at "bd"))
  | ((with_reducible refine' Bd.sub ?b1 ?b2); (case b1 => walk_at "bd"); (case b2 => walk_at "bd"))
  | ((with_reducible refine' Bd.mul ?b1 ?b2); (case b1 => walk_at "bd"); (case b2 => walk_at "bd"))
  | ((with_reducible refine' Bd.neg ?b1); (case b1 => walk_at "bd"))
  | ((with_reducible refine' Bd.pow3 ?b1); (case b1 => walk_at "bd"))
  | ((with_reducible refine' Bd.pow2 ?b1); (case b1 => walk_at "bd"))
  | ((with_reducible refine' Bd.modP ?m1 ?m2); (case m1 => walk_at "bd"); (case m2 => first | decide | omega))
  | ((with_reducible refine' Bd.div ?m1 ?m2); (case m1 => walk_at "bd"); (case m2 => first | decide | omega)))
local macro_rules | `(tactic| walk_at "mul") => `(tactic| first
  | exact mulS1 (by decide) | exact mulS2 (by decide)
  | exact mulS1 (by assumption) | exact mulS2 (by assumption)
  | (refine' mulB ?m1 ?m2 ?m3 ?m4; (case m1 => walk_at "bd"); (case m2 => walk_at "bd"); (case m3 => decide); (case m4 => decide)))
local macro_rules | `(tactic| walk_at "big") => `(tactic| first
  | assumption
  | decide
  | (refine' Bd.big ?m1 ?m2; (case m1 => walk_at "bd"); (case m2 => decide)))
local macro_rules | `(tactic| walk_at "e") => `(tactic| first
  | ((with_reducible refine' we_var ?w1 ?_); (case w1 => exact rfl))
  | ((with_reducible refine' we_varO ?w1 ?w2 ?_); (case w1 => exact rfl); (case w2 => exact rfl))
  | with_reducible refine' we_cst ?_
  | with_reducible refine' we_gcn ?_
  | with_reducible refine' we_bin ?_
  | with_reducible refine' we_cmp ?_
  | ((with_reducible refine' we_idv ?w1 ?_); (case w1 => exact rfl))
  | ((with_reducible refine' we_idvO ?w1 ?_); (case w1 => exact rfl))
  | with_reducible refine' we_call ?_
  | ((with_reducible refine' we_cio ?w1 ?_); (case w1 => exact rfl))
  | with_reducible refine' we_blt ?_
  | with_reducible refine' we_nil ?_
  | with_reducible refine' we_cons ?_
  | ((with_reducible refine' wn_e ?w1 ?_); (case w1 => walk_at "set"))
  | ((with_reducible refine' wn_a ?w1 ?_); (case w1 => walk_at "set"))
  | ((with_reducible refine' wn_p ?w1 ?_); (case w1 => walk_at "set"))
  | ((with_reducible refine' wn_o ?w1 ?_); (case w1 => walk_at "set"))
  | with_reducible refine' we_tup ?_
  | with_reducible refine' we_lst ?_
  | with_reducible refine' we_idx ?_
  | with_reducible refine' we_not ?_
  | with_reducible refine' we_neg ?_
  | with_reducible refine' we_chn ?_
  | with_reducible refine' we_ite ?_
  | with_reducible refine' we_isi ?_
  | with_reducible refine' we_slc ?_
  | with_reducible refine' we_rev ?_
  | with_reducible refine' we_lr1 ?_
  | with_reducible refine' we_lr2 ?_
  | with_reducible refine' we_mnd ?_
  | with_reducible refine' we_gcd ?_
  | with_reducible refine' we_srs ?_
  | with_reducible refine' we_mth ?_
  | with_reducible refine' we_dct ?_
  | with_reducible refine' we_comp ?_
  | ((with_reducible refine' we_rpo ?w1 ?_); (case w1 => exact rfl))
  | with_reducible refine' evO_none ?_
  | with_reducible refine' evO_some ?_
  | with_reducible refine' wo_lst ?_
  | with_reducible refine' wo_comp ?_
  | with_reducible refine' wo_list ?_
  | with_reducible refine' wo_srt ?_
  | with_reducible refine' wo_ite ?_
  | with_reducible refine' wo_call ?_
  | ((with_reducible refine' wo_cio ?w1 ?_); (case w1 => exact rfl))
  | with_reducible refine' wp_nil ?_
  | with_reducible refine' wp_own ?_
  | with_reducible refine' wp_ev ?_)
local macro_rules | `(tactic| walk_at "x") => `(tactic| first
  | with_reducible refine' ex_add ?_
  | ((with_reducible refine' ex_cat ?w1 ?_); (case w1 => first | (simp only [List.length_append, List.length_cons, List.length_nil]; omega)))
  | with_reducible refine' ex_sub ?_
  | with_reducible refine' ex_augA ?_
  | with_reducible refine' ex_augS ?_
  | ((with_reducible refine' ex_mul ?w1 ?_); (case w1 => walk_at "mul"))
  | ((with_reducible refine' ex_mod ?w1 ?_); (case w1 => first | decide | omega))
  | ((with_reducible refine' ex_fdiv ?w1 ?w2 ?_); (case w1 => first | decide | omega); (case w2 => walk_at "big"))
  | with_reducible refine' xo_tru ?_
  | with_reducible refine' xo_bool ?_
  | with_reducible refine' xo_int ?_
  | ((with_reducible refine' xo_at ?w1 ?_); (case w1 => exact rfl))
  | ((with_reducible refine' xo_atL ?w1 ?_); (case w1 => exact rfl))
  | ((with_reducible refine' xo_ix ?w1 ?_); (case w1 => exact rfl))
  | ((with_reducible refine' xo_tg ?w1 ?_); (case w1 => exact rfl))
  | ((with_reducible refine' xo_pa ?w1 ?_); (case w1 => exact rfl))
  | ((with_reducible refine' xo_sub0 ?w1 ?w2 ?_); (case w1 => exact rfl); (case w2 => first | decide | omega))
  | ((with_reducible refine' xo_sub1 ?w1 ?w2 ?_); (case w1 => exact rfl); (case w2 => first | decide | omega))
  | ((with_reducible refine' xo_sub2 ?w1 ?w2 ?_); (case w1 => exact rfl); (case w2 => first | decide | omega))
  | ((with_reducible refine' xo_sub ?w1 ?w2 ?_); (case w1 => exact rfl); (case w2 => exact rfl))
  | ((with_reducible refine' xo_app ?w1 ?w2 ?_); (case w1 => exact rfl); (case w2 => first | decide | (simp only [List.length_append, List.length_cons, List.length_nil]; omega)))
  | with_reducible refine' xb_int ?_
  | with_reducible refine' xb_max ?_
  | with_reducible refine' xb_min ?_
  | with_reducible refine' xb_abs ?_
  | with_reducible refine' xb_len ?_
  | with_reducible refine' xb_lenT ?_
  | with_reducible refine' xn_neg ?_
  | ((with_reducible refine' xb_divmod ?w1 ?w2 ?_); (case w1 => first | decide | omega); (case w2 => walk_at "big"))
  | ((with_reducible refine' xl ?w1 ?_); (case w1 => first | (simp only [List.length_append, List.length_cons, List.length_nil]; omega)))
  | ((with_reducible refine' xl' ?w1 ?_); (case w1 => first | (simp only [List.length_append, List.length_cons, List.length_nil]; omega)))
  | with_reducible refine' x_rr ?_
  | with_reducible refine' xi_int ?_
  | with_reducible refine' xi_bool ?_
  | ((with_reducible refine' nt_pos ?_))
  | ((with_reducible refine' nt_neg ?_))
  | ((with_reducible refine' tf_pos ?_))
  | ((with_reducible refine' tf_neg ?_))
  | ((with_reducible refine' dec_pos ?w1 ?_); (case w1 => first | with_reducible rfl | assumption | omega))
  | ((with_reducible refine' dec_neg ?w1 ?_); (case w1 => first | with_reducible rfl | assumption | omega))
  | ((with_reducible refine' ndec_pos ?w1 ?_); (case w1 => first | with_reducible rfl | assumption | omega))
  | ((with_reducible refine' ndec_neg ?w1 ?_); (case w1 => first | with_reducible rfl | assumption | omega))
  | with_reducible refine' ex_lt ?_
  | with_reducible refine' ex_le ?_
  | with_reducible refine' ex_gt ?_
  | with_reducible refine' ex_ge ?_
  | with_reducible refine' ex_eq ?_
  | with_reducible refine' ex_ne ?_
  | with_reducible refine' ex_eqS ?_
  | with_reducible refine' ex_neS ?_
  | ((with_reducible refine' ex_reprI ?w1 ?_); (case w1 => first | (refine' Bd.up ?m1 ?m2); (case m1 => walk_at "bd"); (case m2 => decide)))
  | with_reducible refine' ex_reprB ?_
  | ((with_reducible refine' xq3 ?w1 ?_); (case w1 => walk_at "big"))
  | ((with_reducible refine' xq2 ?w1 ?_); (case w1 => walk_at "big"))
  | first | with_reducible refine' xt2 ?_ | with_reducible refine' xt3 ?_ | with_reducible refine' xt4 ?_ | with_reducible refine' xt5 ?_ | with_reducible refine' xt6 ?_ | with_reducible refine' xt7 ?_ | with_reducible refine' xt8 ?_ | with_reducible refine' xt9 ?_ | with_reducible refine' xt10 ?_ | with_reducible refine' xt12 ?_ | with_reducible refine' xt16 ?_ | with_reducible refine' xt17 ?_ | with_reducible refine' xt18 ?_ | with_reducible refine' xt19 ?_ | with_reducible refine' xt20 ?_ | with_reducible refine' xt21 ?_ | with_reducible refine' xt22 ?_ | with_reducible refine' xt23 ?_ | with_reducible refine' xt24 ?_ | with_reducible refine' xt25 ?_ | with_reducible refine' xt26 ?_ | with_reducible refine' xt27 ?_ | with_reducible refine' xt28 ?_ | with_reducible refine' xt29 ?_ | with_reducible refine' xt30 ?_ | with_reducible refine' xt38 ?_ | with_reducible refine' xt41 ?_ | with_reducible refine' xt44 ?_ | with_reducible refine' xt46 ?_ | with_reducible refine' xt50 ?_ | with_reducible refine' xt60 ?_
  | with_reducible refine' xp1 ?_ | with_reducible refine' xp2 ?_ | with_reducible refine' xp21 ?_ | with_reducible refine' xp3 ?_ | with_reducible refine' xp321 ?_
  | with_reducible refine' xp4 ?_ | with_reducible refine' xp4321 ?_ | with_reducible refine' xp5 ?_ | with_reducible refine' xp54321 ?_ | with_reducible refine' xp6 ?_ | with_reducible refine' xp0 ?_)
local macro_rules | `(tactic| walk_at "s") => `(tactic| first
  | ((with_reducible refine' wn_s ?w1 ?_); (case w1 => walk_at "set"))
  | ((with_reducible refine' ws_asg ?w1 ?_); (case w1 => exact rfl))
  | ((with_reducible refine' ws_own ?w1 ?_); (case w1 => exact rfl))
  | with_reducible refine' ws_par ?_
  | ((with_reducible refine' ws_aug ?w1 ?w2 ?_); (case w1 => exact rfl); (case w2 => exact rfl))
  | with_reducible refine' ws_unp ?_
  | ((with_reducible refine' ws_sub ?w1 ?_); (case w1 => exact rfl))
  | ((with_reducible refine' ws_app ?w1 ?_); (case w1 => exact rfl))
  | with_reducible refine' ws_exp ?_
  | with_reducible refine' ws_pas ?_
  | with_reducible refine' ws_iff ?_
  | with_reducible refine' ws_ret ?_
  | with_reducible refine' ws_retO ?_
  | with_reducible refine' ws_retN ?_
  | ((with_reducible refine' ws_retV ?w1 ?_); (case w1 => exact rfl))
  | ((with_reducible refine' ws_retVO ?w1 ?w2 ?_); (case w1 => exact rfl); (case w2 => exact rfl))
  | with_reducible refine' ws_nilq ?_
  | with_reducible refine' ws_nill ?_
  | with_reducible refine' ws_nil ?_)
local macro_rules | `(tactic| walk_at "w") => `(tactic| (repeat' (first | walk_at "e" | walk_at "s" | walk_at "x")))
local macro_rules | `(tactic| walk_at "pk") => `(tactic| (repeat' (first | exact fun _ hx => absurd hx (List.not_mem_nil) | refine List.forall_mem_cons.2 ⟨?_, ?_⟩)))
local macro_rules | `(tactic| walk_at "bdu") => `(tactic| (refine' Bd.up ?m1 ?m2; (case m1 => walk_at "bd"); (case m2 => decide)))
local macro_rules | `(tactic| walk_at "len") => `(tactic| (simp only [List.length_cons, List.length_nil]; omega))
def c_sum_of_floors : List CS := [.asg 4 (.cst (PyData.int 0)), .wh (.cmp .Gt (.var 3) (.cst (PyData.int 0))) [.aug .Add 4 (.bin .Add (.bin .Mult (.bin .FloorDiv (.bin .Mult (.var 3) (.bin .Sub (.var 3) (.cst (PyData.int 1)))) (.cst (PyData.int 2))) (.bin .FloorDiv (.var 1) (.var 2))) (.bin .Mult (.var 3) (.bin .FloorDiv (.var 0) (.var 2)))), .par [1, 0] [(false, (.bin .Mod (.var 1) (.var 2))), (false, (.bin .Mod (.var 0) (.var 2)))], .unp [3, 0] (.blt .divmod [(.bin .Add (.var 0) (.bin .Mult (.var 1) (.var 3))), (.var 2)]), .par [1, 2] [(false, (.var 2)), (false, (.var 1))]], .ret (.var 4)]
def c_count_within : List CS := [.asg 5 (.cst (PyData.int 0)), .fr 9 [(.var 3)] [6, 7] false [.aug .Add 5 (.call "sum_of_floors" [0, 1, 2, 3] [(.bin .Sub (.var 0) (.var 6)), (.var 1), (.var 2), (.var 4)]), .aug .Sub 5 (.call "sum_of_floors" [0, 1, 2, 3] [(.bin .Sub (.bin .Sub (.var 0) (.var 7)) (.cst (PyData.int 1))), (.var 1), (.var 2), (.var 4)])], .ret (.var 5)]
def c_first_multiple_within : List CS := [.own 4 (.lst []), .wh (.cmp .Gt (.var 2) (.cst (PyData.int 0))) [.asg 0 (.bin .Mod (.var 0) (.var 1)), .iff (.cmp .Eq (.var 0) (.cst (PyData.int 0))) [.ret (.cst PyData.none)] [], .iff (.cmp .GtE (.bin .Mult (.bin .FloorDiv (.var 3) (.var 0)) (.var 0)) (.var 2)) [.brk] [], .app 4 (.tup [(.var 0), (.var 1), (.var 2)]), .unp [0, 1, 2, 3] (.tup [(.var 1), (.var 0), (.bin .Mod (.neg (.var 3)) (.var 0)), (.bin .Mod (.neg (.var 2)) (.var 0))])], .asg 5 (.neg (.bin .FloorDiv (.neg (.var 2)) (.var 0))), .fr 12 [(.var 4)] [6, 7, 8] false [.asg 5 (.neg (.bin .FloorDiv (.neg (.bin .Add (.var 8) (.bin .Mult (.var 5) (.var 7)))) (.var 6)))], .ret (.var 5)]
def c_first_within : List CS := [.own 4 (.lst []), .fr 9 [(.var 3)] [5, 6] false [.asg 7 (.bin .Mod (.bin .Sub (.var 5) (.var 0)) (.var 2)), .asg 8 (.bin .Sub (.bin .Add (.var 7) (.var 6)) (.var 5)), .app 4 (.ite (.cmp .GtE (.var 8) (.var 2)) (.cst (PyData.int 0)) (.call "first_multiple_within" [0, 1, 2, 3] [(.var 1), (.var 2), (.var 7), (.var 8)]))], .ret (.mnd (.comp 9 [(.var 4)] [9] true [9] (some (.cmp .IsNot (.var 9) (.cst PyData.none))) (.var 9)) (.cst PyData.none))]
theorem Bd.lt2 {k : Nat} {i : Int} (h : Bd k i) : i < 2 ^ k := by
  have h1 : (i.natAbs : Int) < ((2 ^ k : Nat) : Int) := Int.ofNat_lt.mpr h
  rw [Int.natCast_pow] at h1
  have h2 : i ≤ (i.natAbs : Int) := Int.le_natAbs
  exact Int.lt_of_le_of_lt h2 h1
variable {tbl : List (Str × De)} {n : Nat}
theorem sof_val (k : Lk tbl "sum_of_floors" 5 4 false c_sum_of_floors) {a b m : Int} {N : Nat} (hm : 1 ≤ m) (hb : 0 ≤ b) (ba : Bd 400 a) (bb : Bd 400 b) (bm : Bd 400 m) (bN : Bd 400 (N : Int)) :
    calN tbl (n + 1) "sum_of_floors" [.int a, .int b, .int m, .int (N : Nat)] = .ok (.int (Lit.SF a b m N)) none := by
  have hk : m * (b % m) < 2 ^ 800 := (Bd.mul bm (bm.modP (i := b) (by omega))).lt2
  refine wc_run (P := fun z => z = _) k rfl ?_
  show WS (evB (calN tbl n) false c_sum_of_floors [some (.int a, false), some (.int b, false), some (.int m, false), some (.int (N : Nat), false), none]) _
  unfold c_sum_of_floors
  walk_at "w"
  refine ws_wh 801 (by decide) (fun M ρ => ∃ (a' b' m' : Int) (N' : Nat) (T : Int), ρ = [some (.int a', false), some (.int b', false), some (.int m', false), some (.int (N' : Nat), false), some (.int T, false)] ∧ T + Lit.SF a' b' m' N' = Lit.SF a b m N ∧
    (N' = 0 ∨ (0 < m' ∧ 0 ≤ b' ∧ Bd 400 a' ∧ Bd 400 b' ∧ Bd 400 m' ∧ Bd 400 (N' : Int) ∧ ∃ M', M = M' + 1 ∧ m' * (b' % m') < 2 ^ M'))) ⟨a, b, m, N, 0, rfl, by omega, .inr ⟨by omega, hb, ba, bb, bm, bN, 800, rfl, hk⟩⟩ ?_
  clear hk ba bb bm bN hm hb
  rintro M ρ ⟨a', b', m', N', T, rfl, hT, hc⟩
  walk_at "w"
  refine dec_both (fun h => ?_) (fun h => ?_)
  · rcases hc with rfl | ⟨hm, hb, ba, bb, bm, bN, M', rfl, hk⟩
    · exact absurd h (by decide)
    refine ⟨M', rfl, ?_⟩
    rw [Lit.SF_red hm] at hT
    have a0 := Int.emod_nonneg a' (show m' ≠ 0 by omega)
    have a1 := Int.emod_lt_of_pos a' hm
    have b0 := Int.emod_nonneg b' (show m' ≠ 0 by omega)
    have b1 := Int.emod_lt_of_pos b' hm
    have ba' : Bd 400 (a' % m') := bm.modP hm
    have bb' : Bd 400 (b' % m') := bm.modP hm
    have p0 : 0 ≤ b' % m' * (N' : Int) := Int.mul_nonneg b0 (by omega)
    have q0 : 0 ≤ (a' % m' + b' % m' * (N' : Int)) / m' := Int.ediv_nonneg (by omega) (by omega)
    have q1 : (a' % m' + b' % m' * (N' : Int)) / m' ≤ (N' : Int) := by
      have : (a' % m' + b' % m' * (N' : Int)) / m' < (N' : Int) + 1 := Int.ediv_lt_of_lt_mul hm (by
        have := Int.mul_le_mul_of_nonneg_right (show b' % m' ≤ m' by omega) (show (0 : Int) ≤ N' by omega)
        rw [Int.add_mul, Int.one_mul, Int.mul_comm (N' : Int)]
        omega)
      omega
    obtain ⟨N1, hN1⟩ := Int.eq_ofNat_of_zero_le q0
    have bN1 : Bd 400 (N1 : Int) := bN.between (by omega) (by omega)
    have br : Bd 400 ((a' % m' + b' % m' * (N' : Int)) % m') := bm.modP hm
    walk_at "w"
    rw [hN1]
    by_cases z : b' % m' = 0
    · have z1 : N1 = 0 := by
        rw [z, Int.zero_mul, Int.add_zero, Int.ediv_eq_zero_of_lt a0 a1] at hN1
        omega
      have z2 : Lit.SF (a' % m') (b' % m') m' N' = 0 := by
        unfold Lit.SF
        rw [Lit.sm_congr (g := fun _ => 0) fun i _ => by rw [z, Int.mul_zero, Int.add_zero, Int.ediv_eq_zero_of_lt a0 a1], Lit.sm_const, Int.mul_zero]
      subst z1
      refine ⟨_, _, _, 0, _, rfl, ?_, .inl rfl⟩
      rw [z2] at hT
      show T + _ + 0 = _
      omega
    · obtain ⟨K', rfl, hk'⟩ := Lit.half (s := b' % m') (by omega) b1 hk
      refine ⟨_, _, _, N1, _, rfl, ?_, .inr ⟨by omega, by omega, br, bm, bb', bN1, K', rfl, hk'⟩⟩
      rw [Lit.SF_swap (by omega) b1 a0 a1, hN1] at hT
      have e : ((N1 : Nat) : Int).toNat = N1 := rfl
      rw [e] at hT
      omega
  · obtain rfl : N' = 0 := by omega
    have e : Lit.SF a' b' m' 0 = 0 := rfl
    rw [e, Int.add_zero] at hT
    walk_at "w"
    rw [hT]
    rfl
def pr (p : Int × Int) : D := .tuple [.int p.1, .int p.2]
def stD (l : List (Int × Int)) : List D := l.map pr
/-- good stretches of a round -/
def Good (m : Int) (L : List (Int × Int)) : Prop := ∀ p ∈ L, 0 ≤ p.1 ∧ p.1 ≤ p.2 ∧ p.2 < m
def tot (a b m : Int) (N : Nat) (L : List (Int × Int)) : Int := (L.map fun p => Lit.SF (a - p.1) b m N - Lit.SF (a - p.2 - 1) b m N).sum
theorem tot_snoc {a b m : Int} {N : Nat} (L : List (Int × Int)) (p : Int × Int) : tot a b m N (L ++ [p]) = tot a b m N L + (Lit.SF (a - p.1) b m N - Lit.SF (a - p.2 - 1) b m N) := by
  unfold tot
  rw [List.map_append, List.sum_append, List.map_cons, List.map_nil, List.sum_cons, List.sum_nil, Int.add_zero]
theorem stD_at {L : List (Int × Int)} {k : Nat} {x : D} (h : (stD L)[k]? = some x) : ∃ p, L[k]? = some p ∧ x = pr p ∧ p ∈ L ∧ L.take (k + 1) = L.take k ++ [p] := by
  unfold stD at h
  rw [List.getElem?_map] at h
  cases q : L[k]? with
  | none => rw [q] at h; cases h
  | some p =>
    rw [q] at h
    cases h
    exact ⟨p, rfl, rfl, List.mem_of_getElem? q, by rw [List.take_add_one, q]; rfl⟩
theorem cw_val (k : Lk tbl "sum_of_floors" 5 4 false c_sum_of_floors) (k2 : Lk tbl "count_within" 8 5 false c_count_within) {a b m : Int} {N : Nat} {L : List (Int × Int)} (hL : Good m L) (hm : 1 ≤ m) (hb : 0 ≤ b) (ba : Bd 300 a) (bb : Bd 300 b) (bm : Bd 300 m) (bN : Bd 300 (N : Int)) :
    calN tbl (n + 2) "count_within" [.int a, .int b, .int m, .list (stD L), .int (N : Nat)] = .ok (.int (tot a b m N L)) none := by
  refine wc_run (P := fun z => z = _) k2 rfl ?_
  show WS (evB (calN tbl (n + 1)) false c_count_within [some (.int a, false), some (.int b, false), some (.int m, false), some (.list (stD L), false), some (.int (N : Nat), false), none, none, none]) _
  unfold c_count_within
  walk_at "w"
  refine ws_fr (fun k ρ => ∃ o6 o7, ρ = [some (.int a, false), some (.int b, false), some (.int m, false), some (.list (stD L), false), some (.int (N : Nat), false), some (.int (tot a b m N (L.take k)), false), o6, o7]) ?_
  walk_at "w"
  refine ⟨_, rfl, ⟨_, _, rfl⟩, ?_, ?_⟩
  · rintro j x ρ hx ⟨o6, o7, rfl⟩
    obtain ⟨p, hp, rfl, hm', ht⟩ := stD_at hx
    obtain ⟨p0, p1, p2⟩ := hL p hm'
    have b1 : Bd 300 p.1 := bm.ltr p0 (by omega)
    have b2 : Bd 300 p.2 := bm.ltr (by omega) p2
    refine ⟨_, rfl, ?_⟩
    walk_at "w"
    refine we_ret (sof_val (n := n) k hm hb ((Bd.sub ba b1).up (by decide)) (bb.up (by decide)) (bm.up (by decide)) (bN.up (by decide))) ?_
    walk_at "w"
    refine we_ret (sof_val (n := n) k hm hb ((Bd.sub (Bd.sub ba b2) (Bd.lit (k := 2) (i := 1) (by decide))).up (by decide)) (bb.up (by decide)) (bm.up (by decide)) (bN.up (by decide))) ?_
    walk_at "w"
    rw [ht, tot_snoc, ← Int.add_sub_assoc]
    exact ⟨_, _, rfl⟩
  · rintro ρ ⟨o6, o7, rfl⟩
    have e : (stD L).length = L.length := List.length_map ..
    rw [e, List.take_length]
    walk_at "w"
    rfl
def oD : Option Int → D
  | none => .none
  | some k => .int k
def trD (t : Int × Int × Int) : D := .tuple [.int t.1, .int t.2.1, .int t.2.2]
def Chn (s0 m0 l0 h0 : Int) : List (Int × Int × Int) → Int → Int → Int → Int → Prop
  | [], s, m, l, h => s = s0 ∧ m = m0 ∧ l = l0 ∧ h = h0
  | t :: ps, s, m, l, h => ∃ s1 e, 0 < t.1 ∧ 0 < t.2.1 ∧ Bd 400 t.1 ∧ Bd 400 t.2.1 ∧ Bd 400 t.2.2 ∧ (∀ q, Lit.Fst s m l h (some q) → Lit.Fst s1 t.2.1 t.2.2 e (some (Lit.up (t.2.2 + q * t.2.1) t.1))) ∧ (Lit.Fst s m l h none → Lit.Fst s1 t.2.1 t.2.2 e none) ∧ Chn s0 m0 l0 h0 ps s1 t.2.1 t.2.2 e
theorem chn_none {s0 m0 l0 h0 : Int} : ∀ {ps : List (Int × Int × Int)} {s m l h : Int}, Chn s0 m0 l0 h0 ps s m l h → Lit.Fst s m l h none → Lit.Fst s0 m0 l0 h0 none
  | [], s, m, l, h, ⟨e1, e2, e3, e4⟩, f => by subst e1 e2 e3 e4; exact f
  | t :: ps, s, m, l, h, ⟨s1, e, _, _, _, _, _, _, g, c⟩, f => chn_none c (g f)
theorem fmw_val (k : Lk tbl "first_multiple_within" 9 4 false c_first_multiple_within) {s m l h : Int} (hs : 1 ≤ s) (l0 : 0 ≤ l) (lh : l ≤ h) (hm : h < m) (bs : Bd 400 s) (bm : Bd 400 m) :
    ∃ o, calN tbl (n + 1) "first_multiple_within" [.int s, .int m, .int l, .int h] = .ok (oD o) none ∧ Lit.Fst s m l h o := by
  have hk : m * (s % m) < 2 ^ 800 := (Bd.mul bm (bm.modP (i := s) (by omega))).lt2
  refine wc_run (P := fun z => ∃ o, z = .ok (oD o) none ∧ Lit.Fst s m l h o) k rfl ?_
  show WS (evB (calN tbl n) false c_first_multiple_within [some (.int s, false), some (.int m, false), some (.int l, false), some (.int h, false), none, none, none, none, none]) _
  unfold c_first_multiple_within
  walk_at "w"
  have tail : ∀ (s1 m' l' h' s2 : Int) (ps : List (Int × Int × Int)), 0 < s1 → Bd 400 s1 → Bd 400 m' → 0 < m' → Lit.Fst s2 m' l' h' (some (Lit.up l' s1)) → Chn s m l h ps s2 m' l' h' →
      WS (evB (calN tbl n) false [.asg 5 (.neg (.bin .FloorDiv (.neg (.var 2)) (.var 0))), .fr 12 [(.var 4)] [6, 7, 8] false [.asg 5 (.neg (.bin .FloorDiv (.neg (.bin .Add (.var 8) (.bin .Mult (.var 5) (.var 7)))) (.var 6)))], .ret (.var 5)]
        [some (.int s1, false), some (.int m', false), some (.int l', false), some (.int h', false), some (.list (ps.reverse.map trD), true), none, none, none, none]) fun r => ∃ o, outR r = .ok (oD o) none ∧ Lit.Fst s m l h o := by
    intro s1 m' l' h' s2 ps hs1 bs1 bm' hm' hf hc
    walk_at "w"
    refine ws_fr (fun j ρ => ∃ (f sx mx lx hx : Int) (o6 o7 o8 : Option (D × Bool)), ρ = [some (.int s1, false), some (.int m', false), some (.int l', false), some (.int h', false), some (.list (ps.reverse.map trD), false), some (.int f, false), o6, o7, o8] ∧ Lit.Fst sx mx lx hx (some f) ∧ 0 < mx ∧ Bd 400 mx ∧ Chn s m l h (ps.drop j) sx mx lx hx) ?_
    walk_at "w"
    refine ⟨ps.map trD, by show some _ = some _; rw [← List.map_reverse, List.reverse_reverse], ⟨_, s2, m', l', h', _, _, _, rfl, hf, hm', bm', hc⟩, ?_, ?_⟩
    · rintro j x ρ hx ⟨f, sx, mx, lx, hx', o6, o7, o8, rfl, hf, hmx, bmx, hc⟩
      rw [List.getElem?_map] at hx
      cases q : ps[j]? with
      | none => rw [q] at hx; cases hx
      | some t =>
        rw [q] at hx
        cases hx
        obtain ⟨hj, ej⟩ := List.getElem?_eq_some_iff.mp q
        rw [List.drop_eq_getElem_cons hj, ej] at hc
        obtain ⟨s3, e, t1, t2, bt1, bt2, bt3, g1, g2, hc⟩ := hc
        have bf : Bd 400 f := bmx.ltr hf.1 (Lit.fst_lt hmx hf)
        refine ⟨_, rfl, ?_⟩
        walk_at "w"
        exact ⟨_, s3, _, _, e, _, _, _, rfl, g1 f hf, t2, bt2, hc⟩
    · rintro ρ ⟨f, sx, mx, lx, hx', o6, o7, o8, rfl, hf, hmx, bmx, hc⟩
      rw [List.length_map, List.drop_length] at hc
      obtain ⟨rfl, rfl, rfl, rfl⟩ := hc
      walk_at "w"
      exact ⟨some f, rfl, hf⟩
  refine ws_wh 801 (by decide) (fun M ρ => ∃ (s' m' l' h' : Int) (ps : List (Int × Int × Int)) (M' : Nat), ρ = [some (.int s', false), some (.int m', false), some (.int l', false), some (.int h', false), some (.list (ps.reverse.map trD), true), none, none, none, none] ∧ Chn s m l h ps s' m' l' h' ∧
    (ps = [] ∨ 0 < l') ∧ 0 < s' ∧ 0 ≤ l' ∧ l' ≤ h' ∧ h' < m' ∧ Bd 400 s' ∧ Bd 400 m' ∧ M = M' + 1 ∧ ps.length + M' ≤ 800 ∧ m' * (s' % m') < 2 ^ M') ⟨s, m, l, h, [], 800, rfl, ⟨rfl, rfl, rfl, rfl⟩, .inl rfl, by omega, l0, lh, hm, bs, bm, rfl, by decide, hk⟩ ?_
  clear hk
  rintro M ρ ⟨s', m', l', h', ps, M', rfl, hc, hp, s1, l1, l2, h1, bs', bm', rfl, hlen, hk⟩
  have r0 := Int.emod_nonneg s' (show m' ≠ 0 by omega)
  have r1 := Int.emod_lt_of_pos s' (show 0 < m' by omega)
  have br : Bd 400 (s' % m') := bm'.modP (by omega)
  have bh : Bd 400 h' := bm'.ltr (by omega) h1
  have bl : Bd 400 l' := bm'.ltr l1 (by omega)
  walk_at "w"
  refine dec_both (fun c => ?_) (fun c => ?_)
  · refine ⟨M', rfl, ?_⟩
    walk_at "w"
    refine dec_both (fun c2 => ?_) (fun c2 => ?_)
    · walk_at "w"
      exact ⟨none, rfl, chn_none hc (Lit.fst_red (Lit.fst_none c c2))⟩
    · walk_at "w"
      refine dec_both (fun c3 => ?_) (fun c3 => ?_)
      · refine ws_brkq ?_
        exact tail _ _ _ _ s' ps (by omega) br bm' (by omega) (Lit.fst_red (Lit.fst_brk (by omega) l1 h1 c3)) hc
      · have N : Lit.Nxt (s' % m') m' l' h' := ⟨by omega, r1, c, l2, h1, by omega⟩
        have nw := N.new
        obtain ⟨K', rfl, hk'⟩ := Lit.half (s := s' % m') (by omega) r1 hk
        walk_at "w"
        refine ⟨by rw [List.length_map, List.length_reverse]; omega, ?_⟩
        walk_at "w"
        refine ⟨m', s' % m', -h' % (s' % m'), -l' % (s' % m'), (s' % m', m', l') :: ps, K', ?_, ⟨s', h', by show 0 < s' % m'; omega, by show 0 < m'; omega, br, bm', bl, fun q f => Lit.fst_red (N.back f), fun f => Lit.fst_red (N.backN f), hc⟩, .inr nw.1, by omega, by omega, nw.2.1, nw.2.2, bm', br, rfl, by simp only [List.length_cons]; omega, hk'⟩
        rw [List.reverse_cons, List.map_append]
        rfl
  · have hl : l' = 0 := by omega
    obtain rfl : ps = [] := hp.resolve_right (by omega)
    have u0 : Lit.up l' s' = 0 := by
      rw [hl]
      unfold Lit.up
      rw [show -(0 : Int) = 0 from rfl, Int.zero_ediv]
      rfl
    exact tail s' m' l' h' s' [] s1 bs' bm' (by omega) (by rw [u0]; exact Lit.fst_zero (by omega) hl) hc
end Ev

set_option Elab.async false
set_option linter.all false
set_option maxRecDepth 100000
set_option maxHeartbeats 4000000
namespace Lit
variable {a p m : Int}
/-- the first begin of one stretch -/
def One (a p m : Int) (q : Int × Int) : Option Int → Prop
  | some k => 0 ≤ k ∧ Bet q.1 q.2 ((a + k * p) % m) ∧ ∀ j, 0 ≤ j → j < k → ¬Bet q.1 q.2 ((a + j * p) % m)
  | none => ∀ j, 0 ≤ j → ¬Bet q.1 q.2 ((a + j * p) % m)
/-- the first begin of some stretch -/
def Fin (a p m : Int) (L : List (Int × Int)) : Option Int → Prop
  | some k => 0 ≤ k ∧ inn L ((a + k * p) % m) = true ∧ ∀ j, 0 ≤ j → j < k → inn L ((a + j * p) % m) = false
  | none => ∀ j, 0 ≤ j → inn L ((a + j * p) % m) = false
theorem inn_iff (t : Int) : ∀ (L : List (Int × Int)), inn L t = true ↔ ∃ q ∈ L, Bet q.1 q.2 t
  | [] => by simp [inn]
  | q :: L => by
    rw [inn, Bool.or_eq_true, Bool.and_eq_true, decide_eq_true_eq, decide_eq_true_eq, inn_iff t L]
    simp only [List.mem_cons, exists_eq_or_imp]
    rfl
theorem moved {q : Int × Int} (h0 : 0 ≤ q.1) (h1 : q.1 ≤ q.2) (h2 : q.2 < m) (w : (q.1 - a) % m + q.2 - q.1 < m) (j : Int) : Bet q.1 q.2 ((a + j * p) % m) ↔ Bet ((q.1 - a) % m) ((q.1 - a) % m + q.2 - q.1) (j * p % m) := by
  have e1 := Int.mul_ediv_add_emod (a + j * p) m
  have e2 := Int.mul_ediv_add_emod (j * p) m
  have e3 := Int.mul_ediv_add_emod (q.1 - a) m
  have y0 := Int.emod_nonneg (a + j * p) (show m ≠ 0 by omega)
  have y1 := Int.emod_lt_of_pos (a + j * p) (show 0 < m by omega)
  have r0 := Int.emod_nonneg (j * p) (show m ≠ 0 by omega)
  have r1 := Int.emod_lt_of_pos (j * p) (show 0 < m by omega)
  have l0 := Int.emod_nonneg (q.1 - a) (show m ≠ 0 by omega)
  have l1 := Int.emod_lt_of_pos (q.1 - a) (show 0 < m by omega)
  generalize (a + j * p) % m = y at *
  generalize (a + j * p) / m = k1 at *
  generalize j * p % m = r at *
  generalize j * p / m = k2 at *
  generalize (q.1 - a) % m = l at *
  generalize (q.1 - a) / m = k3 at *
  obtain ⟨c, hc⟩ : ∃ c, c = k2 - k3 - k1 := ⟨_, rfl⟩
  have key : m * c = y - q.1 - (r - l) := by rw [hc, Int.mul_sub, Int.mul_sub]; omega
  have cc : c = 0 ∨ 1 ≤ c ∨ c ≤ -1 := by omega
  unfold Bet
  rcases cc with rfl | h | h
  · rw [Int.mul_zero] at key
    omega
  · have := Int.mul_le_mul_of_nonneg_left h (show 0 ≤ m by omega)
    omega
  · have := Int.mul_le_mul_of_nonneg_left h (show 0 ≤ m by omega)
    omega
theorem one_zero {q : Int × Int} (h0 : 0 ≤ q.1) (h1 : q.1 ≤ q.2) (h2 : q.2 < m) (w : m ≤ (q.1 - a) % m + q.2 - q.1) : One a p m q (some 0) := by
  refine ⟨Int.le_refl _, ?_, fun j a b => by omega⟩
  rw [Int.zero_mul, Int.add_zero]
  have e1 := Int.mul_ediv_add_emod a m
  have e3 := Int.mul_ediv_add_emod (q.1 - a) m
  have y0 := Int.emod_nonneg a (show m ≠ 0 by omega)
  have y1 := Int.emod_lt_of_pos a (show 0 < m by omega)
  have l0 := Int.emod_nonneg (q.1 - a) (show m ≠ 0 by omega)
  have l1 := Int.emod_lt_of_pos (q.1 - a) (show 0 < m by omega)
  generalize a % m = y at *
  generalize a / m = k1 at *
  generalize (q.1 - a) % m = l at *
  generalize (q.1 - a) / m = k3 at *
  obtain ⟨c, hc⟩ : ∃ c, c = -(k1 + k3) := ⟨_, rfl⟩
  have key : m * c = y + l - q.1 := by rw [hc, Int.mul_neg, Int.mul_add]; omega
  have cc : c ≤ 0 ∨ c = 1 ∨ 2 ≤ c := by omega
  unfold Bet
  rcases cc with h | rfl | h
  · have := Int.mul_le_mul_of_nonneg_left h (show 0 ≤ m by omega)
    omega
  · rw [Int.mul_one] at key
    omega
  · have := Int.mul_le_mul_of_nonneg_left h (show 0 ≤ m by omega)
    omega
theorem one_of {q : Int × Int} (h0 : 0 ≤ q.1) (h1 : q.1 ≤ q.2) (h2 : q.2 < m) (w : (q.1 - a) % m + q.2 - q.1 < m) : ∀ {o : Option Int}, Fst p m ((q.1 - a) % m) ((q.1 - a) % m + q.2 - q.1) o → One a p m q o
  | none, f => fun j hj z => f j hj ((moved h0 h1 h2 w j).mp z)
  | some k, f => ⟨f.1, (moved h0 h1 h2 w k).mpr f.2.1, fun j hj hk z => f.2.2 j hj hk ((moved h0 h1 h2 w j).mp z)⟩
/-- the firsts of all stretches -/
def Ones (a p m : Int) (L : List (Int × Int)) (os : List (Option Int)) : Prop := (∀ o ∈ os, ∃ q ∈ L, One a p m q o) ∧ ∀ q ∈ L, ∃ o ∈ os, One a p m q o
theorem Ones.snoc {L : List (Int × Int)} {os : List (Option Int)} {q : Int × Int} {o : Option Int} (h : Ones a p m L os) (f : One a p m q o) : Ones a p m (L ++ [q]) (os ++ [o]) := by
  refine ⟨fun x hx => ?_, fun x hx => ?_⟩
  · rcases List.mem_append.mp hx with hx | hx
    · obtain ⟨y, hy, g⟩ := h.1 x hx
      exact ⟨y, List.mem_append_left _ hy, g⟩
    · rw [List.mem_singleton.mp hx]
      exact ⟨q, List.mem_append_right _ (List.mem_singleton.mpr rfl), f⟩
  · rcases List.mem_append.mp hx with hx | hx
    · obtain ⟨y, hy, g⟩ := h.2 x hx
      exact ⟨y, List.mem_append_left _ hy, g⟩
    · rw [List.mem_singleton.mp hx]
      exact ⟨o, List.mem_append_right _ (List.mem_singleton.mpr rfl), f⟩
theorem Ones.none {L : List (Int × Int)} {os : List (Option Int)} (h : Ones a p m L os) (e : os.filterMap id = []) : Fin a p m L none := by
  intro j hj
  rw [← Bool.not_eq_true, inn_iff]
  rintro ⟨q, hq, w⟩
  obtain ⟨o, ho, f⟩ := h.2 q hq
  cases o with
  | none => exact f j hj w
  | some k =>
    have : k ∈ os.filterMap id := List.mem_filterMap.mpr ⟨_, ho, rfl⟩
    rw [e] at this
    cases this
theorem Ones.some {L : List (Int × Int)} {os : List (Option Int)} (h : Ones a p m L os) {k : Int} (e : k ∈ os.filterMap id) (l : ∀ x ∈ os.filterMap id, k ≤ x) : Fin a p m L (some k) := by
  obtain ⟨o, ho, rfl⟩ := List.mem_filterMap.mp e
  obtain ⟨q, hq, f⟩ := h.1 _ ho
  refine ⟨f.1, (inn_iff _ _).mpr ⟨q, hq, f.2.1⟩, fun j hj hk => ?_⟩
  rw [← Bool.not_eq_true, inn_iff]
  rintro ⟨r, hr, w⟩
  obtain ⟨o, ho', g⟩ := h.2 r hr
  cases o with
  | none => exact g j hj w
  | some x =>
    have : k ≤ x := l x (List.mem_filterMap.mpr ⟨_, ho', rfl⟩)
    exact g.2.2 j hj (by omega) w
end Lit
namespace Ev
set_option exponentiation.threshold 5000
open PySem PySem.Spec PyProof.Rows L2 PySem.W
local macro_rules | `(tactic| walk_at "set") => `(tactic| (repeat (with_reducible refine' set_s ?_)); exact set_z)
local macro_rules | `(tactic| walk_at "bd") => `(tactic| first
  | assumption
  | exact Bd.lit (k := 400) (by decide +kernel)
  | ((with_reducible refine' Bd.add ?b1 ?b2); (case b1 => walk_at "bd"); (case b2 => walk_at "bd"))
  | ((with_reducible refine' Bd.sub ?b1 ?b2); (case b1 => walk_at "bd"); (case b2 => walk_at "bd"))
  | ((with_reducible refine' Bd.mul ?b1 ?b2); (case b1 => walk_at "bd"); (case b2 => walk_at "bd"))
  | ((with_reducible refine' Bd.neg ?b1); (case b1 => walk_at "bd"))
  | ((with_reducible refine' Bd.pow3 ?b1); (case b1 => walk_at "bd"))
  | ((with_reducible refine' Bd.pow2 ?b1); (case b1 => walk_at "bd"))
  | ((with_reducible refine' Bd.modP ?m1 ?m2); (case m1 => walk_at "bd"); (case m2 => first | decide | omega))
  | ((with_reducible refine' Bd.div ?m1 ?m2); (case m1 => walk_at "bd"); (case m2 => first | decide | omega)))
local macro_rules | `(tactic| walk_at "mul") => `(tactic| first
  | exact mulS1 (by decide) | exact mulS2 (by decide)
  | exact mulS1 (by assumption) | exact mulS2 (by assumption)
  | (refine' mulB ?m1 ?m2 ?m3 ?m4; (case m1 => walk_at "bd"); (case m2 => walk_at "bd"); (case m3 => decide); (case m4 => decide)))
local macro_rules | `(tactic| walk_at "big") => `(tactic| first
  | assumption
  | decide
  | (refine' Bd.big ?m1 ?m2; (case m1 => walk_at "bd"); (case m2 => decide)))
local macro_rules | `(tactic| walk_at "e") => `(tactic| first
  | ((with_reducible refine' we_var ?w1 ?_); (case w1 => exact rfl))
  | ((with_reducible refine' we_varO ?w1 ?w2 ?_); (case w1 => exact rfl); (case w2 => exact rfl))
  | with_reducible refine' we_cst ?_
  | with_reducible refine' we_gcn ?_
  | with_reducible refine' we_bin ?_
  | with_reducible refine' we_cmp ?_
  | ((with_reducible refine' we_idv ?w1 ?_); (case w1 => exact rfl))
  | ((with_reducible refine' we_idvO ?w1 ?_); (case w1 => exact rfl))
  | with_reducible refine' we_call ?_
  | ((with_reducible refine' we_cio ?w1 ?_); (case w1 => exact rfl))
  | with_reducible refine' we_blt ?_
  | with_reducible refine' we_nil ?_
  | with_reducible refine' we_cons ?_
  | ((with_reducible refine' wn_e ?w1 ?_); (case w1 => walk_at "set"))
  | ((with_reducible refine' wn_a ?w1 ?_); (case w1 => walk_at "set"))
  | ((with_reducible refine' wn_p ?w1 ?_); (case w1 => walk_at "set"))
  | ((with_reducible refine' wn_o ?w1 ?_); (case w1 => walk_at "set"))
  | with_reducible refine' we_tup ?_
  | with_reducible refine' we_lst ?_
  | with_reducible refine' we_idx ?_
  | with_reducible refine' we_not ?_
  | with_reducible refine' we_neg ?_
  | with_reducible refine' we_chn ?_
  | with_reducible refine' we_ite ?_
  | with_reducible refine' we_isi ?_
  | with_reducible refine' we_slc ?_
  | with_reducible refine' we_rev ?_
  | with_reducible refine' we_lr1 ?_
  | with_reducible refine' we_lr2 ?_
  | with_reducible refine' we_mnd ?_
  | with_reducible refine' we_gcd ?_
  | with_reducible refine' we_srs ?_
  | with_reducible refine' we_mth ?_
  | with_reducible refine' we_dct ?_
  | with_reducible refine' we_comp ?_
  | ((with_reducible refine' we_rpo ?w1 ?_); (case w1 => exact rfl))
  | with_reducible refine' evO_none ?_
  | with_reducible refine' evO_some ?_
  | with_reducible refine' wo_lst ?_
  | with_reducible refine' wo_comp ?_
  | with_reducible refine' wo_list ?_
  | with_reducible refine' wo_srt ?_
  | with_reducible refine' wo_ite ?_
  | with_reducible refine' wo_call ?_
  | ((with_reducible refine' wo_cio ?w1 ?_); (case w1 => exact rfl))
  | with_reducible refine' wp_nil ?_
  | with_reducible refine' wp_own ?_
  | with_reducible refine' wp_ev ?_)
local macro_rules | `(tactic| walk_at "x") => `(tactic| first
  | with_reducible refine' ex_add ?_
  | ((with_reducible refine' ex_cat ?w1 ?_); (case w1 => first | (simp only [List.length_append, List.length_cons, List.length_nil]; omega)))
  | with_reducible refine' ex_sub ?_
  | with_reducible refine' ex_augA ?_
  | with_reducible refine' ex_augS ?_
  | ((with_reducible refine' ex_mul ?w1 ?_); (case w1 => walk_at "mul"))
  | ((with_reducible refine' ex_mod ?w1 ?_); (case w1 => first | decide | omega))
  | ((with_reducible refine' ex_fdiv ?w1 ?w2 ?_); (case w1 => first | decide | omega); (case w2 => walk_at "big"))
  | with_reducible refine' xo_tru ?_
  | with_reducible refine' xo_bool ?_
  | with_reducible refine' xo_int ?_
  | ((with_reducible refine' xo_at ?w1 ?_); (case w1 => exact rfl))
  | ((with_reducible refine' xo_atL ?w1 ?_); (case w1 => exact rfl))
  | ((with_reducible refine' xo_ix ?w1 ?_); (case w1 => exact rfl))
  | ((with_reducible refine' xo_tg ?w1 ?_); (case w1 => exact rfl))
  | ((with_reducible refine' xo_pa ?w1 ?_); (case w1 => exact rfl))
  | ((with_reducible refine' xo_sub0 ?w1 ?w2 ?_); (case w1 => exact rfl); (case w2 => first | decide | omega))
  | ((with_reducible refine' xo_sub1 ?w1 ?w2 ?_); (case w1 => exact rfl); (case w2 => first | decide | omega))
  | ((with_reducible refine' xo_sub2 ?w1 ?w2 ?_); (case w1 => exact rfl); (case w2 => first | decide | omega))
  | ((with_reducible refine' xo_sub ?w1 ?w2 ?_); (case w1 => exact rfl); (case w2 => exact rfl))
  | ((with_reducible refine' xo_app ?w1 ?w2 ?_); (case w1 => exact rfl); (case w2 => first | decide | (simp only [List.length_append, List.length_cons, List.length_nil]; omega)))
  | with_reducible refine' xb_int ?_
  | with_reducible refine' xb_max ?_
  | with_reducible refine' xb_min ?_
  | with_reducible refine' xb_abs ?_
  | with_reducible refine' xb_len ?_
  | with_reducible refine' xb_lenT ?_
  | with_reducible refine' xn_neg ?_
  | ((with_reducible refine' xb_divmod ?w1 ?w2 ?_); (case w1 => first | decide | omega); (case w2 => walk_at "big"))
  | ((with_reducible refine' xl ?w1 ?_); (case w1 => first | (simp only [List.length_append, List.length_cons, List.length_nil]; omega)))
  | ((with_reducible refine' xl' ?w1 ?_); (case w1 => first | (simp only [List.length_append, List.length_cons, List.length_nil]; omega)))
  | with_reducible refine' x_rr ?_
  | with_reducible refine' xi_int ?_
  | with_reducible refine' xi_bool ?_
  | ((with_reducible refine' nt_pos ?_))
  | ((with_reducible refine' nt_neg ?_))
  | ((with_reducible refine' tf_pos ?_))
  | ((with_reducible refine' tf_neg ?_))
  | ((with_reducible refine' dec_pos ?w1 ?_); (case w1 => first | with_reducible rfl | assumption | omega))
  | ((with_reducible refine' dec_neg ?w1 ?_); (case w1 => first | with_reducible rfl | assumption | omega))
  | ((with_reducible refine' ndec_pos ?w1 ?_); (case w1 => first | with_reducible rfl | assumption | omega))
  | ((with_reducible refine' ndec_neg ?w1 ?_); (case w1 => first | with_reducible rfl | assumption | omega))
  | with_reducible refine' ex_lt ?_
  | with_reducible refine' ex_le ?_
  | with_reducible refine' ex_gt ?_
  | with_reducible refine' ex_ge ?_
  | with_reducible refine' ex_eq ?_
  | with_reducible refine' ex_ne ?_
  | with_reducible refine' ex_eqS ?_
  | with_reducible refine' ex_neS ?_
  | ((with_reducible refine' ex_reprI ?w1 ?_); (case w1 => first | (refine' Bd.up ?m1 ?m2); (case m1 => walk_at "bd"); (case m2 => decide)))
  | with_reducible refine' ex_reprB ?_
  | ((with_reducible refine' xq3 ?w1 ?_); (case w1 => walk_at "big"))
  | ((with_reducible refine' xq2 ?w1 ?_); (case w1 => walk_at "big"))
  | first | with_reducible refine' xt2 ?_ | with_reducible refine' xt3 ?_ | with_reducible refine' xt4 ?_ | with_reducible refine' xt5 ?_ | with_reducible refine' xt6 ?_ | with_reducible refine' xt7 ?_ | with_reducible refine' xt8 ?_ | with_reducible refine' xt9 ?_ | with_reducible refine' xt10 ?_ | with_reducible refine' xt12 ?_ | with_reducible refine' xt16 ?_ | with_reducible refine' xt17 ?_ | with_reducible refine' xt18 ?_ | with_reducible refine' xt19 ?_ | with_reducible refine' xt20 ?_ | with_reducible refine' xt21 ?_ | with_reducible refine' xt22 ?_ | with_reducible refine' xt23 ?_ | with_reducible refine' xt24 ?_ | with_reducible refine' xt25 ?_ | with_reducible refine' xt26 ?_ | with_reducible refine' xt27 ?_ | with_reducible refine' xt28 ?_ | with_reducible refine' xt29 ?_ | with_reducible refine' xt30 ?_ | with_reducible refine' xt38 ?_ | with_reducible refine' xt41 ?_ | with_reducible refine' xt44 ?_ | with_reducible refine' xt46 ?_ | with_reducible refine' xt50 ?_ | with_reducible refine' xt60 ?_
  | with_reducible refine' xp1 ?_ | with_reducible refine' xp2 ?_ | with_reducible refine' xp21 ?_ | with_reducible refine' xp3 ?_ | with_reducible refine' xp321 ?_
  | with_reducible refine' xp4 ?_ | with_reducible refine' xp4321 ?_ | with_reducible refine' xp5 ?_ | with_reducible refine' xp54321 ?_ | with_reducible refine' xp6 ?_ | with_reducible refine' xp0 ?_)
local macro_rules | `(tactic| walk_at "s") => `(tactic| first
  | ((with_reducible refine' wn_s ?w1 ?_); (case w1 => walk_at "set"))
  | ((with_reducible refine' ws_asg ?w1 ?_); (case w1 => exact rfl))
  | ((with_reducible refine' ws_own ?w1 ?_); (case w1 => exact rfl))
  | with_reducible refine' ws_par ?_
  | ((with_reducible refine' ws_aug ?w1 ?w2 ?_); (case w1 => exact rfl); (case w2 => exact rfl))
  | with_reducible refine' ws_unp ?_
  | ((with_reducible refine' ws_sub ?w1 ?_); (case w1 => exact rfl))
  | ((with_reducible refine' ws_app ?w1 ?_); (case w1 => exact rfl))
  | with_reducible refine' ws_exp ?_
  | with_reducible refine' ws_pas ?_
  | with_reducible refine' ws_iff ?_
  | with_reducible refine' ws_ret ?_
  | with_reducible refine' ws_retO ?_
  | with_reducible refine' ws_retN ?_
  | ((with_reducible refine' ws_retV ?w1 ?_); (case w1 => exact rfl))
  | ((with_reducible refine' ws_retVO ?w1 ?w2 ?_); (case w1 => exact rfl); (case w2 => exact rfl))
  | with_reducible refine' ws_nilq ?_
  | with_reducible refine' ws_nill ?_
  | with_reducible refine' ws_nil ?_)
local macro_rules | `(tactic| walk_at "w") => `(tactic| (repeat' (first | walk_at "e" | walk_at "s" | walk_at "x")))
local macro_rules | `(tactic| walk_at "pk") => `(tactic| (repeat' (first | exact fun _ hx => absurd hx (List.not_mem_nil) | refine List.forall_mem_cons.2 ⟨?_, ?_⟩)))
local macro_rules | `(tactic| walk_at "bdu") => `(tactic| (refine' Bd.up ?m1 ?m2; (case m1 => walk_at "bd"); (case m2 => decide)))
local macro_rules | `(tactic| walk_at "len") => `(tactic| (simp only [List.length_cons, List.length_nil]; omega))
variable {tbl : List (Str × De)} {n : Nat}
def isI : D → Bool
  | .none => false
  | _ => true
theorem oD_ints : ∀ os : List (Option Int), ((os.map oD).filter isI).map id = (os.filterMap id).map PyData.int
  | [] => rfl
  | none :: os => oD_ints os
  | some k :: os => by
    have := oD_ints os
    show PyData.int k :: ((os.map oD).filter isI).map id = PyData.int k :: (os.filterMap id).map PyData.int
    rw [this]
theorem intsOf_map : ∀ is : List Int, intsOf (is.map PyData.int) = some is
  | [] => rfl
  | i :: is => by
    show (intsOf (is.map PyData.int)).map (i :: ·) = _
    rw [intsOf_map is]
    rfl
def lowO : List Int → Option Int
  | [] => none
  | a :: r => some (lowL a r)
theorem mnd_val (os : List (Option Int)) : mndD (.list ((os.filterMap id).map PyData.int)) .none = some (oD (lowO (os.filterMap id))) := by
  show (intsOf _).bind _ = _
  rw [intsOf_map]
  cases os.filterMap id with
  | nil => rfl
  | cons a r => rfl
theorem fin_low {a p m : Int} {L : List (Int × Int)} {os : List (Option Int)} (h : Lit.Ones a p m L os) : Lit.Fin a p m L (lowO (os.filterMap id)) := by
  cases q : os.filterMap id with
  | nil => exact h.none q
  | cons b r =>
    obtain ⟨l1, l2, l3⟩ := lowL_spec b r
    refine h.some (k := lowL b r) ?_ fun x hx => ?_
    · rw [q]
      rcases l1 with l | l
      · rw [l]; exact List.mem_cons_self
      · exact List.mem_cons_of_mem _ l
    · rw [q] at hx
      rcases List.mem_cons.mp hx with rfl | hx
      · exact l2
      · exact l3 x hx
theorem fw_val (k : Lk tbl "first_multiple_within" 9 4 false c_first_multiple_within) (k2 : Lk tbl "first_within" 10 4 false c_first_within) {a p m : Int} {L : List (Int × Int)} (hL : Good m L) (hl : L.length < 1000) (hm : 1 ≤ m) (hp : 1 ≤ p) (bp : Bd 400 p) (bm : Bd 400 m) :
    ∃ o, calN tbl (n + 2) "first_within" [.int a, .int p, .int m, .list (stD L)] = .ok (oD o) none ∧ Lit.Fin a p m L o := by
  refine wc_run (P := fun z => ∃ o, z = .ok (oD o) none ∧ Lit.Fin a p m L o) k2 rfl ?_
  show WS (evB (calN tbl (n + 1)) false c_first_within [some (.int a, false), some (.int p, false), some (.int m, false), some (.list (stD L), false), none, none, none, none, none, none]) _
  unfold c_first_within
  walk_at "w"
  refine ws_fr (fun j ρ => ∃ (os : List (Option Int)) (o5 o6 o7 o8 : Option (D × Bool)), ρ = [some (.int a, false), some (.int p, false), some (.int m, false), some (.list (stD L), false), some (.list (os.map oD), true), o5, o6, o7, o8, none] ∧ os.length = j ∧ Lit.Ones a p m (L.take j) os) ?_
  walk_at "w"
  refine ⟨_, rfl, ⟨[], _, _, _, _, rfl, rfl, fun _ h => by (cases h), fun _ h => by (cases h)⟩, ?_, ?_⟩
  · rintro j x ρ hx ⟨os, o5, o6, o7, o8, rfl, hj, ho⟩
    have hjl : j < 1000 := by
      have h1 := (List.getElem?_eq_some_iff.mp hx).1
      have h2 : (stD L).length = L.length := List.length_map ..
      omega
    obtain ⟨q, hq, rfl, hm', ht⟩ := stD_at hx
    obtain ⟨q0, q1, q2⟩ := hL q hm'
    have g0 := Int.emod_nonneg (q.1 - a) (show m ≠ 0 by omega)
    have g1 := Int.emod_lt_of_pos (q.1 - a) (show 0 < m by omega)
    refine ⟨_, rfl, ?_⟩
    walk_at "w"
    rw [ht]
    refine dec_both (fun c => ?_) (fun c => ?_)
    · walk_at "w"
      refine ⟨by rw [List.length_map]; omega, ?_⟩
      walk_at "w"
      rw [show os.map oD ++ [PyData.int 0] = (os ++ [some 0]).map oD by rw [List.map_append]; rfl]
      exact ⟨os ++ [some 0], _, _, _, _, rfl, by rw [List.length_append]; simp [hj], ho.snoc (Lit.one_zero q0 q1 q2 c)⟩
    · obtain ⟨o, e, f⟩ := fmw_val (n := n) k hp g0 (show (q.1 - a) % m ≤ (q.1 - a) % m + q.2 - q.1 by omega) (by omega) bp bm
      walk_at "w"
      refine we_ret e ?_
      walk_at "w"
      refine ⟨by rw [List.length_map]; omega, ?_⟩
      walk_at "w"
      rw [show os.map oD ++ [oD o] = (os ++ [o]).map oD by rw [List.map_append]; rfl]
      exact ⟨os ++ [o], _, _, _, _, rfl, by rw [List.length_append]; simp [hj], ho.snoc (Lit.one_of q0 q1 q2 (by omega) f)⟩
  · rintro ρ ⟨os, o5, o6, o7, o8, rfl, hj, ho⟩
    have e : (stD L).length = L.length := List.length_map ..
    rw [e] at hj
    rw [e, List.take_length] at ho
    walk_at "w"
    refine wc_pure isI id ?_
    walk_at "w"
    refine ⟨_, rfl, rfl, by rw [List.length_map]; omega, rfl, fun x hx => ?_, ?_⟩
    · obtain ⟨o, _, rfl⟩ := List.mem_map.mp hx
      refine ⟨_, rfl, ?_, fun _ => ?_, rfl⟩
      · cases o <;> exact ⟨rfl, rfl⟩
      · walk_at "w"
        exact ⟨rfl, rfl⟩
    · rw [oD_ints]
      walk_at "w"
      refine ⟨_, mnd_val os, ?_⟩
      walk_at "w"
      exact ⟨_, rfl, fin_low ho⟩
/-- counted one by one -/
theorem tot_one {a b m : Int} {N : Nat} {q : Int × Int} (hm : 0 < m) (h0 : 0 ≤ q.1) (h1 : q.1 ≤ q.2) (h2 : q.2 < m) : tot a b m N [q] = Lit.sm (fun k => Lit.ind q.1 q.2 ((a + k * b) % m)) N := by
  show Lit.SF (a - q.1) b m N - Lit.SF (a - q.2 - 1) b m N + 0 = _
  rw [Int.add_zero, Lit.cnt_ind hm h0 (by omega) h2]
end Ev

set_option Elab.async false
set_option linter.all false
set_option maxRecDepth 100000
set_option maxHeartbeats 4000000
namespace Lit
variable {R L : Int}
theorem emod_at {R u q r : Int} (h0 : 0 ≤ r) (h1 : r < R) (e : u = q * R + r) : u % R = r := (div_of h0 h1 e).2
def wrp (x y R : Int) : List (Int × Int) := if R - 1 ≤ y - x then [(0, R - 1)] else if x % R ≤ y % R then [(x % R, y % R)] else [(0, y % R), (x % R, R - 1)]
theorem turns {k R a : Int} (hR : 0 < R) (h0 : -R < k * R + a) (h1 : k * R + a < R) (a0 : -R < a) (a1 : a < R) : k = 0 ∨ k = 1 ∨ k = -1 := by
  have x1 : k < 2 := Int.lt_of_mul_lt_mul_right (a := R) (by omega) (by omega)
  have x2 : -2 < k := Int.lt_of_mul_lt_mul_right (a := R) (by omega) (by omega)
  omega
theorem wrp_both (hR : 0 < R) {x y : Int} (h : x ≤ y) : Can 0 R (wrp x y R) ∧ ∀ t, 0 ≤ t → t < R → inn (wrp x y R) t = decide ((t - x) % R ≤ y - x) := by
  have a0 := Int.emod_nonneg x (show R ≠ 0 by omega)
  have a1 := Int.emod_lt_of_pos x hR
  have b0 := Int.emod_nonneg y (show R ≠ 0 by omega)
  have b1 := Int.emod_lt_of_pos y hR
  have ex := split x R
  have ey := split y R
  unfold wrp
  by_cases q : R - 1 ≤ y - x
  · rw [if_pos q]
    refine ⟨⟨Int.le_refl _, by show (0 : Int) ≤ R - 1; omega, by show R - 1 < R; omega, trivial⟩, fun t t0 t1 => ?_⟩
    have := Int.emod_lt_of_pos (t - x) hR
    rw [inn, inn, decide_eq_true (show (t - x) % R ≤ y - x by omega), decide_eq_true (show (0 : Int) ≤ t by omega), decide_eq_true (show t ≤ R - 1 by omega)]
    rfl
  · rw [if_neg q]
    have hk := turns (k := y / R - x / R) (a := y % R - x % R) hR (by rw [Int.sub_mul]; omega) (by rw [Int.sub_mul]; omega) (by omega) (by omega)
    have ed : (y / R - x / R) * R + (y % R - x % R) = y - x := by rw [Int.sub_mul]; omega
    have md : ∀ t, 0 ≤ t → t < R → (t - x) % R = if x % R ≤ t then t - x % R else t - x % R + R := fun t t0 t1 => by
      split
      · exact emod_at (q := -(x / R)) (by omega) (by omega) (by rw [Int.neg_mul]; omega)
      · exact emod_at (q := -(x / R) - 1) (by omega) (by omega) (by rw [Int.sub_mul, Int.neg_mul]; omega)
    generalize x % R = lo at *
    generalize y % R = hi at *
    generalize y / R - x / R = k at *
    have ek : k * R = 0 ∨ k * R = R ∨ k * R = -R := by rcases hk with rfl | rfl | rfl <;> omega
    by_cases c : lo ≤ hi
    · rw [if_pos c]
      refine ⟨⟨a0, c, b1, trivial⟩, fun t t0 t1 => ?_⟩
      rw [inn, inn, md t t0 t1, Bool.or_false, Bool.eq_iff_iff, Bool.and_eq_true, decide_eq_true_eq, decide_eq_true_eq, decide_eq_true_eq]
      dsimp only
      split <;> omega
    · rw [if_neg c]
      refine ⟨⟨Int.le_refl _, b0, b1, by show hi + 2 ≤ lo; omega, by show lo ≤ R - 1; omega, by show R - 1 < R; omega, trivial⟩, fun t t0 t1 => ?_⟩
      rw [inn, inn, inn, md t t0 t1, Bool.or_false, Bool.eq_iff_iff, Bool.or_eq_true, Bool.and_eq_true, Bool.and_eq_true, decide_eq_true_eq, decide_eq_true_eq, decide_eq_true_eq, decide_eq_true_eq, decide_eq_true_eq]
      dsimp only
      split <;> omega
def sst (R L st E N : Int) : List (Int × Int) := if N - E / R * L ≤ (if E % R + L - R > 0 then E % R + L - R else 0) then [(0, R - 1)] else if (if L < E % R then L else E % R) < N - E / R * L then [] else wrp (st + (N - E / R * L) - E % R) (st + L - (N - E / R * L)) R
theorem sst_both (hL : 0 < L) (hR : L ≤ R) (st E N : Int) : Can 0 R (sst R L st E N) ∧ ∀ s, 0 ≤ s → s < R → inn (sst R L st E N) s = decide (N ≤ cnt R L (s - st + E) - cnt R L (s - st)) := by
  have R0 : 0 < R := by omega
  have l0 := Int.emod_nonneg E (show R ≠ 0 by omega)
  have l1 := Int.emod_lt_of_pos E R0
  have cw := fun s => cnt_win hL hR (s - st) E _ (E % R) rfl rfl
  have eg := fun s => split (s - st) R
  have g0 := fun s => Int.emod_nonneg (s - st) (show R ≠ 0 by omega)
  have g1 := fun s => Int.emod_lt_of_pos (s - st) R0
  unfold sst
  generalize E % R = l at *
  generalize E / R * L = k at *
  by_cases q : N - k ≤ (if l + L - R > 0 then l + L - R else 0)
  · rw [if_pos q]
    refine ⟨⟨Int.le_refl _, by show (0 : Int) ≤ R - 1; omega, by show R - 1 < R; omega, trivial⟩, fun s s0 s1 => ?_⟩
    rw [inn, inn, decide_eq_true (show (0 : Int) ≤ s by omega), decide_eq_true (show s ≤ R - 1 by omega), cw s]
    have h0 := g0 s
    have h1 := g1 s
    clear cw eg g0 g1
    generalize (s - st) % R = g at *
    refine (decide_eq_true ?_).symm
    revert q
    repeat' split
    all_goals omega
  · rw [if_neg q]
    by_cases q2 : (if L < l then L else l) < N - k
    · rw [if_pos q2]
      refine ⟨trivial, fun s s0 s1 => ?_⟩
      rw [inn, cw s]
      have h0 := g0 s
      have h1 := g1 s
      clear cw eg g0 g1 q
      generalize (s - st) % R = g at *
      refine (decide_eq_false ?_).symm
      revert q2
      repeat' split
      all_goals omega
    · rw [if_neg q2]
      have m1 : N - k ≤ L ∧ N - k ≤ l := by revert q2; split <;> omega
      have m2 : 0 < N - k ∧ l + L - R < N - k := by revert q; split <;> omega
      obtain ⟨x1, x2⟩ := wrp_both R0 (x := st + (N - k) - l) (y := st + L - (N - k)) (by omega)
      refine ⟨x1, fun s s0 s1 => ?_⟩
      rw [x2 s s0 s1, cw s]
      have h0 := g0 s
      have h1 := g1 s
      have h2 := eg s
      clear cw eg g0 g1 q q2 x1 x2
      generalize (s - st) % R = g at *
      have md : (s - (st + (N - k) - l)) % R = if g + l - (N - k) < R then g + l - (N - k) else g + l - (N - k) - R := by
        split
        · exact emod_at (q := (s - st) / R) (by omega) (by omega) (by omega)
        · exact emod_at (q := (s - st) / R + 1) (by omega) (by omega) (by rw [Int.add_mul]; omega)
      rw [md, Bool.eq_iff_iff, decide_eq_true_eq, decide_eq_true_eq]
      clear md h2
      repeat' split
      all_goals omega
/-- the begins at which all places up to the k-th one are seen -/
def clr (R L S E N : Int) : Nat → List (Int × Int)
  | 0 => sst R L (0 * S) E N
  | k + 1 => com (clr R L S E N k) (sst R L (((k + 1 : Nat) : Int) * S) E N)
theorem clr_can (hL : 0 < L) (hR : L ≤ R) (S E N : Int) : ∀ k, Can 0 R (clr R L S E N k)
  | 0 => (sst_both hL hR _ _ _).1
  | k + 1 => com_can (clr_can hL hR S E N k) (sst_both hL hR _ _ _).1
theorem clr_inn (hL : 0 < L) (hR : L ≤ R) (S E N : Int) {s : Int} (s0 : 0 ≤ s) (s1 : s < R) : ∀ k, inn (clr R L S E N k) s = true ↔ ∀ j : Int, 0 ≤ j → j ≤ (k : Nat) → N ≤ cnt R L (s - j * S + E) - cnt R L (s - j * S)
  | 0 => by
    rw [clr, (sst_both hL hR _ _ _).2 s s0 s1, decide_eq_true_eq]
    constructor
    · intro h j j0 j1
      have : j = 0 := by omega
      subst this
      exact h
    · intro h
      exact h 0 (Int.le_refl _) (by omega)
  | k + 1 => by
    rw [clr, com_inn, Bool.and_eq_true, clr_inn hL hR S E N s0 s1 k, (sst_both hL hR _ _ _).2 s s0 s1, decide_eq_true_eq]
    constructor
    · rintro ⟨h1, h2⟩ j j0 j1
      by_cases q : j ≤ (k : Nat)
      · exact h1 j j0 q
      · have : j = ((k + 1 : Nat) : Int) := by omega
        rw [this]
        exact h2
    · intro h
      exact ⟨fun j j0 j1 => h j j0 (by omega), h _ (by omega) (Int.le_refl _)⟩
theorem few_le (hL : 0 < L) (hR : L ≤ R) (E u : Int) : few R L E ≤ cnt R L (u + E) - cnt R L u := by
  have R0 : 0 < R := by omega
  have l0 := Int.emod_nonneg E (show R ≠ 0 by omega)
  have l1 := Int.emod_lt_of_pos E R0
  have g0 := Int.emod_nonneg u (show R ≠ 0 by omega)
  have g1 := Int.emod_lt_of_pos u R0
  rw [cnt_win hL hR u E _ _ rfl rfl]
  unfold few
  generalize E % R = l at *
  generalize E / R * L = k at *
  generalize u % R = g at *
  repeat' split
  all_goals omega
theorem few_is (hL : 0 < L) (hR : L ≤ R) (E : Int) : few R L E = cnt R L (L % R + E) - cnt R L (L % R) := by
  rw [few_cnt hL hR]
  have e := split L R
  have e1 := cnt_shift (L := L) (R := R) (by omega) (L % R + E) (L / R)
  have e2 := cnt_shift (L := L) (R := R) (by omega) (L % R) (L / R)
  rw [show L % R + E + L / R * R = L + E by omega] at e1
  rw [show L % R + L / R * R = L by omega] at e2
  omega
theorem clr_all (hL : 0 < L) (hR : L ≤ R) (S E N : Int) (k : Nat) : clr R L S E N k = [(0, R - 1)] ↔ N ≤ few R L E := by
  have R0 : 0 < R := by omega
  constructor
  · intro h
    have m0 := Int.emod_nonneg L (show R ≠ 0 by omega)
    have m1 := Int.emod_lt_of_pos L R0
    have e := (clr_inn hL hR S E N m0 m1 k).mp (by
      rw [h, inn, decide_eq_true (show (0 : Int) ≤ L % R by omega), decide_eq_true (show L % R ≤ R - 1 by omega)]
      rfl) 0 (Int.le_refl _) (by omega)
    rw [Int.zero_mul, Int.sub_zero, ← few_is hL hR] at e
    exact e
  · intro h
    refine (clr_can hL hR S E N k).uniq (b := R) (a := 0) ⟨Int.le_refl _, by show (0 : Int) ≤ R - 1; omega, by show R - 1 < R; omega, trivial⟩ fun t t0 t1 => ?_
    rw [inn, decide_eq_true (show (0 : Int) ≤ t by omega), decide_eq_true (show t ≤ R - 1 by omega)]
    exact (clr_inn hL hR S E N t0 t1 k).mpr fun j _ _ => Int.le_trans h (few_le hL hR E _)
/-- lit ticks counted one by one -/
theorem lit_len (hL : 0 < L) (hR : L ≤ R) (u c : Int) : ∀ n : Nat, ((((rg (u + c) (u + c + (n : Int))).filter fun t => decide ((t - c) % R < L)).length : Nat) : Int) = cnt R L (u + n) - cnt R L u
  | 0 => by
    rw [show u + c + ((0 : Nat) : Int) = u + c by omega, show rg (u + c) (u + c) = [] by unfold rg; rw [show (u + c - (u + c)).toNat = 0 by omega]; rfl, show u + ((0 : Nat) : Int) = u by omega]
    simp
  | n + 1 => by
    have ih := lit_len hL hR u c n
    have st := cnt_step hL hR (u + n)
    rw [show u + c + ((n + 1 : Nat) : Int) = u + c + (n : Int) + 1 by omega, rg_split (b := u + c + (n : Int)) (by omega) (by omega), List.filter_append, List.length_append, rg_one, show u + ((n + 1 : Nat) : Int) = u + n + 1 by omega, st, Int.natCast_add, ih, List.filter_cons, List.filter_nil, show u + c + (n : Int) - c = u + n by omega]
    by_cases q : (u + n) % R < L
    · rw [if_pos (by rw [decide_eq_true q]), if_pos q]
      show cnt R L (u + n) - cnt R L u + 1 = _
      omega
    · rw [if_neg (by rw [decide_eq_false q]; exact Bool.false_ne_true), if_neg q]
      show cnt R L (u + n) - cnt R L u + 0 = _
      omega
end Lit

set_option Elab.async false
set_option linter.all false
set_option maxRecDepth 100000
set_option maxHeartbeats 4000000
namespace Lit
/-- what is left out, from a on -/
def lft : Int → List (Int × Int) → Int → List (Int × Int)
  | a, [], R => if a < R then [(a, R - 1)] else []
  | a, p :: L, R => (if a < p.1 then [(a, p.1 - 1)] else []) ++ lft (p.2 + 1) L R
theorem lft_mem : ∀ {L : List (Int × Int)} {a R : Int}, Can a R L → ∀ q ∈ lft a L R, a ≤ q.1 ∧ q.1 ≤ q.2 ∧ q.2 < R
  | [], a, R, _, q, hq => by
    unfold lft at hq
    split at hq
    · rw [List.mem_singleton.mp hq]
      exact ⟨Int.le_refl _, by show a ≤ R - 1; omega, by show R - 1 < R; omega⟩
    · cases hq
  | p :: L, a, R, h, q, hq => by
    obtain ⟨h1, h2, h3, h4⟩ := h
    unfold lft at hq
    rcases List.mem_append.mp hq with hq | hq
    · split at hq
      · rw [List.mem_singleton.mp hq]
        exact ⟨Int.le_refl _, by show a ≤ p.1 - 1; omega, by show p.1 - 1 < R; omega⟩
      · cases hq
    · have := lft_mem (h4.weak (show p.2 + 1 ≤ p.2 + 2 by omega) (Int.le_refl _)) q hq
      omega
theorem inn_none {L : List (Int × Int)} {t : Int} (h : ∀ q ∈ L, t < q.1) : inn L t = false := by
  rw [← Bool.not_eq_true, inn_iff]
  rintro ⟨q, hq, w⟩
  have := h q hq
  have := w.1
  omega
theorem lft_inn : ∀ {L : List (Int × Int)} {a R : Int}, Can a R L → ∀ t, a ≤ t → t < R → inn (lft a L R) t = !inn L t
  | [], a, R, _, t, t0, t1 => by
    unfold lft
    rw [if_pos (by omega), inn, inn, inn, decide_eq_true t0, decide_eq_true (show t ≤ R - 1 by omega)]
    rfl
  | p :: L, a, R, h, t, t0, t1 => by
    obtain ⟨h1, h2, h3, h4⟩ := h
    have h5 := h4.weak (show p.2 + 1 ≤ p.2 + 2 by omega) (Int.le_refl R)
    unfold lft
    rw [inn_app]
    by_cases c : t ≤ p.2
    · rw [inn_none (L := lft (p.2 + 1) L R) fun q hq => by have := lft_mem h5 q hq; omega, Bool.or_false, inn, h4.out (by omega), Bool.or_false, decide_eq_true c, Bool.and_true]
      by_cases c2 : p.1 ≤ t
      · rw [decide_eq_true c2]
        split
        · rw [inn, inn, decide_eq_false (show ¬t ≤ p.1 - 1 by omega)]; simp
        · rfl
      · rw [if_pos (by omega), inn, inn, decide_eq_true t0, decide_eq_true (show t ≤ p.1 - 1 by omega), decide_eq_false c2]
        rfl
    · rw [lft_inn h5 t (by omega) t1, inn, decide_eq_false c, Bool.and_false, Bool.false_or]
      split
      · rw [inn, inn, decide_eq_false (show ¬t ≤ p.1 - 1 by omega)]; simp
      · rfl
theorem lft_len : ∀ (L : List (Int × Int)) (a R : Int), (lft a L R).length ≤ L.length + 1
  | [], a, R => by unfold lft; split <;> simp
  | p :: L, a, R => by
    have := lft_len L (p.2 + 1) R
    unfold lft
    rw [List.length_append, List.length_cons]
    split
    · rw [List.length_singleton]; omega
    · rw [List.length_nil]; omega
theorem Can.len' : ∀ {l : List (Int × Int)} {a b : Int}, Can a b l → a ≤ b → (l.length : Int) ≤ b - a
  | [], a, b, _, h => by show (0 : Int) ≤ _; omega
  | p :: l, a, b, h, _ => by
    obtain ⟨h1, h2, h3, h4⟩ := h
    rw [List.length_cons]
    by_cases q : p.2 + 2 ≤ b
    · have := h4.len' q
      omega
    · cases l with
      | nil => show (1 : Int) ≤ _; omega
      | cons r l => obtain ⟨g1, g2, g3, _⟩ := h4; omega
theorem Can.mem' : ∀ {l : List (Int × Int)} {a b : Int}, Can a b l → ∀ p ∈ l, a ≤ p.1 ∧ p.1 ≤ p.2 ∧ p.2 < b
  | q :: l, a, b, h, p, hp => by
    obtain ⟨h1, h2, h3, h4⟩ := h
    rcases List.mem_cons.mp hp with rfl | hp
    · exact ⟨h1, h2, h3⟩
    · have := h4.mem' p hp
      omega
theorem com_snoc (m : List (Int × Int)) (p : Int × Int) : ∀ l : List (Int × Int), com (l ++ [p]) m = com l m ++ pcs p m
  | [] => by
    show pcs p m ++ com [] m = com [] m ++ pcs p m
    rw [show com [] m = [] from rfl, List.append_nil, List.nil_append]
  | q :: l => by
    show pcs q m ++ com (l ++ [p]) m = (pcs q m ++ com l m) ++ pcs p m
    rw [com_snoc m p l, List.append_assoc]
theorem pcs_snoc (p q : Int × Int) (m : List (Int × Int)) : pcs p (m ++ [q]) = pcs p m ++ (if meets p q = true then [cap p q] else []) := by
  unfold pcs
  rw [List.filter_append, List.map_append]
  congr 1
  by_cases h : meets p q = true
  · rw [if_pos h, List.filter_cons, if_pos h]; rfl
  · rw [if_neg h, List.filter_cons, if_neg h]; rfl
theorem pcs_le (p : Int × Int) (m : List (Int × Int)) : (pcs p m).length ≤ m.length := by
  unfold pcs
  rw [List.length_map]
  exact List.length_filter_le _ _
theorem com_le (m : List (Int × Int)) : ∀ l : List (Int × Int), (com l m).length ≤ l.length * m.length
  | [] => Nat.zero_le _
  | p :: l => by
    have h1 := pcs_le p m
    have h2 := com_le m l
    show (pcs p m ++ com l m).length ≤ _
    rw [List.length_append, List.length_cons, Nat.succ_mul]
    omega
/-- the sum over disjoint stretches -/
theorem sum_ind : ∀ {l : List (Int × Int)} {a b : Int}, Can a b l → ∀ x, (l.map fun p => ind p.1 p.2 x).sum = if inn l x = true then 1 else 0
  | [], _, _, _, x => rfl
  | p :: l, a, b, h, x => by
    obtain ⟨h1, h2, h3, h4⟩ := h
    rw [List.map_cons, List.sum_cons, sum_ind h4, inn]
    rcases ind_01 p.1 p.2 x with q | q
    · rw [q]
      have : (decide (p.1 ≤ x) && decide (x ≤ p.2)) = false := by
        unfold ind ind.Bet' at q
        cases z : (decide (p.1 ≤ x) && decide (x ≤ p.2)) with
        | false => rfl
        | true => rw [z] at q; cases q
      rw [this, Bool.false_or]
      omega
    · rw [q]
      have w := ind_one.mp q
      rw [decide_eq_true w.1, decide_eq_true w.2, h4.out (by have := w.2; omega)]
      rfl
theorem sm_sum {α : Type} (g : α → Nat → Int) : ∀ (l : List α) (N : Nat), (l.map fun p => sm (g p) N).sum = sm (fun k => (l.map fun p => g p k).sum) N
  | [], N => by
    rw [List.map_nil, List.sum_nil]
    exact Eq.trans (by rw [Int.mul_zero]) (Eq.trans (sm_const 0 N).symm (sm_congr fun i _ => rfl))
  | p :: l, N => by
    rw [List.map_cons, List.sum_cons, sm_sum g l N, ← sm_add]
    exact sm_congr fun i _ => by rw [List.map_cons, List.sum_cons]
end Lit
namespace Ev
set_option exponentiation.threshold 5000
open PySem PySem.Spec PyProof.Rows L2 PySem.W
local macro_rules | `(tactic| walk_at "set") => `(tactic| (repeat (with_reducible refine' set_s ?_)); exact set_z)
local macro_rules | `(tactic| walk_at "bd") => `(tactic| first
  | assumption
  | exact Bd.lit (k := 400) (by decide +kernel)
  | ((with_reducible refine' Bd.add ?b1 ?b2); (case b1 => walk_at "bd"); (case b2 => walk_at "bd"))
  | ((with_reducible refine' Bd.sub ?b1 ?b2); (case b1 => walk_at "bd"); (case b2 => walk_at "bd"))
  | ((with_reducible refine' Bd.mul ?b1 ?b2); (case b1 => walk_at "bd"); (case b2 => walk_at "bd"))
  | ((with_reducible refine' Bd.neg ?b1); (case b1 => walk_at "bd"))
  | ((with_reducible refine' Bd.pow3 ?b1); (case b1 => walk_at "bd"))
  | ((with_reducible refine' Bd.pow2 ?b1); (case b1 => walk_at "bd"))
  | ((with_reducible refine' Bd.modP ?m1 ?m2); (case m1 => walk_at "bd"); (case m2 => first | decide | omega))
  | ((with_reducible refine' Bd.div ?m1 ?m2); (case m1 => walk_at "bd"); (case m2 => first | decide | omega)))
local macro_rules | `(tactic| walk_at "mul") => `(tactic| first
  | exact mulS1 (by decide) | exact mulS2 (by decide)
  | exact mulS1 (by assumption) | exact mulS2 (by assumption)
  | (refine' mulB ?m1 ?m2 ?m3 ?m4; (case m1 => walk_at "bd"); (case m2 => walk_at "bd"); (case m3 => decide); (case m4 => decide)))
local macro_rules | `(tactic| walk_at "big") => `(tactic| first
  | assumption
  | decide
  | (refine' Bd.big ?m1 ?m2; (case m1 => walk_at "bd"); (case m2 => decide)))
local macro_rules | `(tactic| walk_at "e") => `(tactic| first
  | ((with_reducible refine' we_var ?w1 ?_); (case w1 => exact rfl))
  | ((with_reducible refine' we_varO ?w1 ?w2 ?_); (case w1 => exact rfl); (case w2 => exact rfl))
  | with_reducible refine' we_cst ?_
  | with_reducible refine' we_gcn ?_
  | with_reducible refine' we_bin ?_
  | with_reducible refine' we_cmp ?_
  | ((with_reducible refine' we_idv ?w1 ?_); (case w1 => exact rfl))
  | ((with_reducible refine' we_idvO ?w1 ?_); (case w1 => exact rfl))
  | with_reducible refine' we_call ?_
  | ((with_reducible refine' we_cio ?w1 ?_); (case w1 => exact rfl))
  | with_reducible refine' we_blt ?_
  | with_reducible refine' we_nil ?_
  | with_reducible refine' we_cons ?_
  | ((with_reducible refine' wn_e ?w1 ?_); (case w1 => walk_at "set"))
  | ((with_reducible refine' wn_a ?w1 ?_); (case w1 => walk_at "set"))
  | ((with_reducible refine' wn_p ?w1 ?_); (case w1 => walk_at "set"))
  | ((with_reducible refine' wn_o ?w1 ?_); (case w1 => walk_at "set"))
  | with_reducible refine' we_tup ?_
  | with_reducible refine' we_lst ?_
  | with_reducible refine' we_idx ?_
  | with_reducible refine' we_not ?_
  | with_reducible refine' we_neg ?_
  | with_reducible refine' we_chn ?_
  | with_reducible refine' we_ite ?_
  | with_reducible refine' we_isi ?_
  | with_reducible refine' we_slc ?_
  | with_reducible refine' we_rev ?_
  | with_reducible refine' we_lr1 ?_
  | with_reducible refine' we_lr2 ?_
  | with_reducible refine' we_mnd ?_
  | with_reducible refine' we_gcd ?_
  | with_reducible refine' we_srs ?_
  | with_reducible refine' we_mth ?_
  | with_reducible refine' we_dct ?_
  | with_reducible refine' we_comp ?_
  | ((with_reducible refine' we_rpo ?w1 ?_); (case w1 => exact rfl))
  | with_reducible refine' evO_none ?_
  | with_reducible refine' evO_some ?_
  | with_reducible refine' wo_lst ?_
  | with_reducible refine' wo_comp ?_
  | with_reducible refine' wo_list ?_
  | with_reducible refine' wo_srt ?_
  | with_reducible refine' wo_ite ?_
  | with_reducible refine' wo_call ?_
  | ((with_reducible refine' wo_cio ?w1 ?_); (case w1 => exact rfl))
  | with_reducible refine' wp_nil ?_
  | with_reducible refine' wp_own ?_
  | with_reducible refine' wp_ev ?_)
local macro_rules | `(tactic| walk_at "x") => `(tactic| first
  | with_reducible refine' ex_add ?_
  | ((with_reducible refine' ex_cat ?w1 ?_); (case w1 => first | (simp only [List.length_append, List.length_cons, List.length_nil]; omega)))
  | with_reducible refine' ex_sub ?_
  | with_reducible refine' ex_augA ?_
  | with_reducible refine' ex_augS ?_
  | ((with_reducible refine' ex_mul ?w1 ?_); (case w1 => walk_at "mul"))
  | ((with_reducible refine' ex_mod ?w1 ?_); (case w1 => first | decide | omega))
  | ((with_reducible refine' ex_fdiv ?w1 ?w2 ?_); (case w1 => first | decide | omega); (case w2 => walk_at "big"))
  | with_reducible refine' xo_tru ?_
  | with_reducible refine' xo_bool ?_
  | with_reducible refine' xo_int ?_
  | ((with_reducible refine' xo_at ?w1 ?_); (case w1 => exact rfl))
  | ((with_reducible refine' xo_atL ?w1 ?_); (case w1 => exact rfl))
  | ((with_reducible refine' xo_ix ?w1 ?_); (case w1 => exact rfl))
  | ((with_reducible refine' xo_tg ?w1 ?_); (case w1 => exact rfl))
  | ((with_reducible refine' xo_pa ?w1 ?_); (case w1 => exact rfl))
  | ((with_reducible refine' xo_sub0 ?w1 ?w2 ?_); (case w1 => exact rfl); (case w2 => first | decide | omega))
  | ((with_reducible refine' xo_sub1 ?w1 ?w2 ?_); (case w1 => exact rfl); (case w2 => first | decide | omega))
  | ((with_reducible refine' xo_sub2 ?w1 ?w2 ?_); (case w1 => exact rfl); (case w2 => first | decide | omega))
  | ((with_reducible refine' xo_sub ?w1 ?w2 ?_); (case w1 => exact rfl); (case w2 => exact rfl))
  | ((with_reducible refine' xo_app ?w1 ?w2 ?_); (case w1 => exact rfl); (case w2 => first | decide | (simp only [List.length_append, List.length_cons, List.length_nil]; omega)))
  | with_reducible refine' xb_int ?_
  | with_reducible refine' xb_max ?_
  | with_reducible refine' xb_min ?_
  | with_reducible refine' xb_abs ?_
  | with_reducible refine' xb_len ?_
  | with_reducible refine' xb_lenT ?_
  | with_reducible refine' xn_neg ?_
  | ((with_reducible refine' xb_divmod ?w1 ?w2 ?_); (case w1 => first | decide | omega); (case w2 => walk_at "big"))
  | ((with_reducible refine' xl ?w1 ?_); (case w1 => first | (simp only [List.length_append, List.length_cons, List.length_nil]; omega)))
  | ((with_reducible refine' xl' ?w1 ?_); (case w1 => first | (simp only [List.length_append, List.length_cons, List.length_nil]; omega)))
  | with_reducible refine' x_rr ?_
  | with_reducible refine' xi_int ?_
  | with_reducible refine' xi_bool ?_
  | ((with_reducible refine' nt_pos ?_))
  | ((with_reducible refine' nt_neg ?_))
  | ((with_reducible refine' tf_pos ?_))
  | ((with_reducible refine' tf_neg ?_))
  | ((with_reducible refine' dec_pos ?w1 ?_); (case w1 => first | with_reducible rfl | assumption | omega))
  | ((with_reducible refine' dec_neg ?w1 ?_); (case w1 => first | with_reducible rfl | assumption | omega))
  | ((with_reducible refine' ndec_pos ?w1 ?_); (case w1 => first | with_reducible rfl | assumption | omega))
  | ((with_reducible refine' ndec_neg ?w1 ?_); (case w1 => first | with_reducible rfl | assumption | omega))
  | with_reducible refine' ex_lt ?_
  | with_reducible refine' ex_le ?_
  | with_reducible refine' ex_gt ?_
  | with_reducible refine' ex_ge ?_
  | with_reducible refine' ex_eq ?_
  | with_reducible refine' ex_ne ?_
  | with_reducible refine' ex_eqS ?_
  | with_reducible refine' ex_neS ?_
  | ((with_reducible refine' ex_reprI ?w1 ?_); (case w1 => first | (refine' Bd.up ?m1 ?m2); (case m1 => walk_at "bd"); (case m2 => decide)))
  | with_reducible refine' ex_reprB ?_
  | ((with_reducible refine' xq3 ?w1 ?_); (case w1 => walk_at "big"))
  | ((with_reducible refine' xq2 ?w1 ?_); (case w1 => walk_at "big"))
  | first | with_reducible refine' xt2 ?_ | with_reducible refine' xt3 ?_ | with_reducible refine' xt4 ?_ | with_reducible refine' xt5 ?_ | with_reducible refine' xt6 ?_ | with_reducible refine' xt7 ?_ | with_reducible refine' xt8 ?_ | with_reducible refine' xt9 ?_ | with_reducible refine' xt10 ?_ | with_reducible refine' xt12 ?_ | with_reducible refine' xt16 ?_ | with_reducible refine' xt17 ?_ | with_reducible refine' xt18 ?_ | with_reducible refine' xt19 ?_ | with_reducible refine' xt20 ?_ | with_reducible refine' xt21 ?_ | with_reducible refine' xt22 ?_ | with_reducible refine' xt23 ?_ | with_reducible refine' xt24 ?_ | with_reducible refine' xt25 ?_ | with_reducible refine' xt26 ?_ | with_reducible refine' xt27 ?_ | with_reducible refine' xt28 ?_ | with_reducible refine' xt29 ?_ | with_reducible refine' xt30 ?_ | with_reducible refine' xt38 ?_ | with_reducible refine' xt41 ?_ | with_reducible refine' xt44 ?_ | with_reducible refine' xt46 ?_ | with_reducible refine' xt50 ?_ | with_reducible refine' xt60 ?_
  | with_reducible refine' xp1 ?_ | with_reducible refine' xp2 ?_ | with_reducible refine' xp21 ?_ | with_reducible refine' xp3 ?_ | with_reducible refine' xp321 ?_
  | with_reducible refine' xp4 ?_ | with_reducible refine' xp4321 ?_ | with_reducible refine' xp5 ?_ | with_reducible refine' xp54321 ?_ | with_reducible refine' xp6 ?_ | with_reducible refine' xp0 ?_)
local macro_rules | `(tactic| walk_at "s") => `(tactic| first
  | ((with_reducible refine' wn_s ?w1 ?_); (case w1 => walk_at "set"))
  | ((with_reducible refine' ws_asg ?w1 ?_); (case w1 => exact rfl))
  | ((with_reducible refine' ws_own ?w1 ?_); (case w1 => exact rfl))
  | with_reducible refine' ws_par ?_
  | ((with_reducible refine' ws_aug ?w1 ?w2 ?_); (case w1 => exact rfl); (case w2 => exact rfl))
  | with_reducible refine' ws_unp ?_
  | ((with_reducible refine' ws_sub ?w1 ?_); (case w1 => exact rfl))
  | ((with_reducible refine' ws_app ?w1 ?_); (case w1 => exact rfl))
  | with_reducible refine' ws_exp ?_
  | with_reducible refine' ws_pas ?_
  | with_reducible refine' ws_iff ?_
  | with_reducible refine' ws_ret ?_
  | with_reducible refine' ws_retO ?_
  | with_reducible refine' ws_retN ?_
  | ((with_reducible refine' ws_retV ?w1 ?_); (case w1 => exact rfl))
  | ((with_reducible refine' ws_retVO ?w1 ?w2 ?_); (case w1 => exact rfl); (case w2 => exact rfl))
  | with_reducible refine' ws_nilq ?_
  | with_reducible refine' ws_nill ?_
  | with_reducible refine' ws_nil ?_)
local macro_rules | `(tactic| walk_at "w") => `(tactic| (repeat' (first | walk_at "e" | walk_at "s" | walk_at "x")))
local macro_rules | `(tactic| walk_at "pk") => `(tactic| (repeat' (first | exact fun _ hx => absurd hx (List.not_mem_nil) | refine List.forall_mem_cons.2 ⟨?_, ?_⟩)))
local macro_rules | `(tactic| walk_at "bdu") => `(tactic| (refine' Bd.up ?m1 ?m2; (case m1 => walk_at "bd"); (case m2 => decide)))
local macro_rules | `(tactic| walk_at "len") => `(tactic| (simp only [List.length_cons, List.length_nil]; omega))
def c_wrapped : List CS := [.iff (.cmp .GtE (.bin .Sub (.var 1) (.var 0)) (.bin .Sub (.var 2) (.cst (PyData.int 1)))) [.ret (.lst [(.tup [(.cst (PyData.int 0)), (.bin .Sub (.var 2) (.cst (PyData.int 1)))])])] [], .par [3, 4] [(false, (.bin .Mod (.var 0) (.var 2))), (false, (.bin .Mod (.var 1) (.var 2)))], .iff (.cmp .LtE (.var 3) (.var 4)) [.ret (.lst [(.tup [(.var 3), (.var 4)])])] [], .ret (.lst [(.tup [(.cst (PyData.int 0)), (.var 4)]), (.tup [(.var 3), (.bin .Sub (.var 2) (.cst (PyData.int 1)))])])]
def c_seen_stretches : List CS := [.unp [6, 7, 8, 9] (.var 0), .unp [10, 11] (.var 1), .asg 3 (.bin .Mult (.var 6) (.var 7)), .unp [12, 13] (.blt .divmod [(.var 10), (.var 3)]), .asg 4 (.bin .Sub (.var 11) (.bin .Mult (.var 12) (.var 8))), .iff (.cmp .LtE (.var 4) (.blt .max [(.cst (PyData.int 0)), (.bin .Sub (.bin .Add (.var 13) (.var 8)) (.var 3))])) [.ret (.lst [(.tup [(.cst (PyData.int 0)), (.bin .Sub (.var 3) (.cst (PyData.int 1)))])])] [], .iff (.cmp .Gt (.var 4) (.blt .min [(.var 13), (.var 8)])) [.ret (.lst [])] [], .asg 5 (.bin .Mult (.var 2) (.var 7)), .ret (.call "wrapped" [0, 1, 2] [(.bin .Sub (.bin .Add (.var 5) (.var 4)) (.var 13)), (.bin .Sub (.bin .Add (.var 5) (.var 8)) (.var 4)), (.var 3)])]
def c_common_stretches : List CS := [.own 2 (.lst []), .fr 9 [(.var 0)] [3, 4] false [.fr 9 [(.var 1)] [5, 6] false [.iff (.and (.cmp .LtE (.var 3) (.var 6)) (.cmp .LtE (.var 5) (.var 4))) [.app 2 (.tup [(.blt .max [(.var 3), (.var 5)]), (.blt .min [(.var 4), (.var 6)])])] []]], .ret (.var 2)]
def c_clear_stretches : List CS := [.asg 2 (.call "seen_stretches" [0, 1, 2] [(.var 0), (.var 1), (.cst (PyData.int 0))]), .fr 1 [(.cst (PyData.int 1)), (.idv 0 (.cst (PyData.int 0)))] [3] true [.asg 2 (.call "common_stretches" [0, 1] [(.var 2), (.call "seen_stretches" [0, 1, 2] [(.var 0), (.var 1), (.var 3)])])], .ret (.var 2)]
def c_left_out : List CS := [.own 2 (.lst []), .asg 3 (.cst (PyData.int 0)), .fr 9 [(.var 0)] [4, 5] false [.iff (.cmp .Lt (.var 3) (.var 4)) [.app 2 (.tup [(.var 3), (.bin .Sub (.var 4) (.cst (PyData.int 1)))])] [], .asg 3 (.bin .Add (.var 5) (.cst (PyData.int 1)))], .iff (.cmp .Lt (.var 3) (.var 1)) [.app 2 (.tup [(.var 3), (.bin .Sub (.var 1) (.cst (PyData.int 1)))])] [], .ret (.var 2)]
def c_dark_stretches : List CS := [.ret (.call "left_out" [0, 1] [(.call "clear_stretches" [0, 1] [(.var 0), (.var 1)]), (.bin .Mult (.idv 0 (.cst (PyData.int 0))) (.idv 0 (.cst (PyData.int 1))))])]
def c_first_dark : List CS := [.exp (.call "check_display" [0] [(.var 0)]), .exp (.call "check_camera" [0] [(.var 1)]), .exp (.call "check_tick" [0] [(.var 2)]), .exp (.call "check_number_from" [0, 1] [(.var 3), (.cst (PyData.int 1))]), .ret (.call "first_within" [0, 1, 2, 3] [(.var 2), (.var 3), (.bin .Mult (.idv 0 (.cst (PyData.int 0))) (.idv 0 (.cst (PyData.int 1)))), (.call "dark_stretches" [0, 1] [(.var 0), (.var 1)])])]
def c_first_clear : List CS := [.exp (.call "check_display" [0] [(.var 0)]), .exp (.call "check_camera" [0] [(.var 1)]), .exp (.call "check_tick" [0] [(.var 2)]), .exp (.call "check_number_from" [0, 1] [(.var 3), (.cst (PyData.int 1))]), .ret (.call "first_within" [0, 1, 2, 3] [(.var 2), (.var 3), (.bin .Mult (.idv 0 (.cst (PyData.int 0))) (.idv 0 (.cst (PyData.int 1)))), (.call "clear_stretches" [0, 1] [(.var 0), (.var 1)])])]
def c_count_dark : List CS := [.exp (.call "check_display" [0] [(.var 0)]), .exp (.call "check_camera" [0] [(.var 1)]), .exp (.call "check_tick" [0] [(.var 2)]), .exp (.call "check_number_from" [0, 1] [(.var 3), (.cst (PyData.int 1))]), .exp (.call "check_number_from" [0, 1] [(.var 4), (.cst (PyData.int 0))]), .ret (.call "count_within" [0, 1, 2, 3, 4] [(.var 2), (.var 3), (.bin .Mult (.idv 0 (.cst (PyData.int 0))) (.idv 0 (.cst (PyData.int 1)))), (.call "dark_stretches" [0, 1] [(.var 0), (.var 1)]), (.var 4)])]
variable {tbl : List (Str × De)} {n : Nat} {P S L : Int} {d : Str}
theorem tot_can {a b m : Int} {N : Nat} {l : List (Int × Int)} (hm : 0 < m) (g : Good m l) {x y : Int} (c : Lit.Can x y l) : tot a b m N l = Lit.sm (fun k => if Lit.inn l ((a + k * b) % m) = true then 1 else 0) N := by
  unfold tot
  rw [List.map_congr_left (g := fun p => Lit.sm (fun k => Lit.ind p.1 p.2 ((a + k * b) % m)) N) fun p hp => by
    obtain ⟨g0, g1, g2⟩ := g p hp
    exact Lit.cnt_ind hm g0 (by omega) g2 a b N, Lit.sm_sum (fun (p : Int × Int) (k : Nat) => Lit.ind p.1 p.2 ((a + k * b) % m))]
  exact Lit.sm_congr fun i _ => Lit.sum_ind c _
theorem wrapped_ok (k : Lk tbl "wrapped" 5 3 false c_wrapped) {x y R : Int} (hR : 0 < R) (bR : Bd 900 R) : calN tbl (n + 1) "wrapped" [.int x, .int y, .int R] = .ok (.list (stD (Lit.wrp x y R))) none := by
  refine wc_run (P := fun z => z = _) k rfl ?_
  show WS (evB (calN tbl n) false c_wrapped [some (.int x, false), some (.int y, false), some (.int R, false), none, none]) _
  unfold c_wrapped
  walk_at "w"
  unfold Lit.wrp
  refine dec_both (fun c => ?_) (fun c => ?_)
  · rw [if_pos c]
    walk_at "w"
    rfl
  · rw [if_neg c]
    walk_at "w"
    refine dec_both (fun c2 => ?_) (fun c2 => ?_)
    · rw [if_pos c2]
      walk_at "w"
      rfl
    · rw [if_neg c2]
      walk_at "w"
      rfl
theorem seen_ok (kw : Lk tbl "wrapped" 5 3 false c_wrapped) (k : Lk tbl "seen_stretches" 14 3 false c_seen_stretches) (v : Val P S L d) {j : Int} (h0 : 0 ≤ j) (h1 : j < P) {E N : Int} (bE : Bd 500 E) : calN tbl (n + 2) "seen_stretches" [dsp P S L d, cam E N, .int j] = .ok (.list (stD (Lit.sst (P * S) L (j * S) E N))) none := by
  have R0 := v.sR.2
  have e5 := fun x y => wrapped_ok (n := n) kw (x := x) (y := y) R0 (v.rb.up (by decide))
  have bP := v.pb
  have bS := v.sb
  have bL := v.lb
  have bj : Bd 4 j := by have := v.p8; unfold Bd; omega
  have bR := v.rb
  refine wc_run (P := fun z => z = _) k rfl ?_
  show WS (evB (calN tbl (n + 1)) false c_seen_stretches [some (dsp P S L d, false), some (cam E N, false), some (.int j, false), none, none, none, none, none, none, none, none, none, none, none]) _
  unfold c_seen_stretches
  walk_at "w"
  unfold Lit.sst
  refine dec_both (fun c => ?_) (fun c => ?_)
  · rw [if_pos c]
    walk_at "w"
    rfl
  · rw [if_neg c]
    walk_at "w"
    refine dec_both (fun c2 => ?_) (fun c2 => ?_)
    · rw [if_pos c2]
      walk_at "w"
      rfl
    · rw [if_neg c2]
      walk_at "w"
      refine we_ret (e5 _ _) ?_
      walk_at "w"
      rfl
end Ev

set_option Elab.async false
set_option linter.all false
set_option maxRecDepth 100000
set_option maxHeartbeats 4000000
namespace Ev
set_option exponentiation.threshold 5000
open PySem PySem.Spec PyProof.Rows L2 PySem.W
local macro_rules | `(tactic| walk_at "set") => `(tactic| (repeat (with_reducible refine' set_s ?_)); exact set_z)
local macro_rules | `(tactic| walk_at "bd") => `(tactic| first
  | assumption
  | exact Bd.lit (k := 400) (by decide +kernel)
  | ((with_reducible refine' Bd.add ?b1 ?b2); (case b1 => walk_at "bd"); (case b2 => walk_at "bd"))
  | ((with_reducible refine' Bd.sub ?b1 ?b2); (case b1 => walk_at "bd"); (case b2 => walk_at "bd"))
  | ((with_reducible refine' Bd.mul ?b1 ?b2); (case b1 => walk_at "bd"); (case b2 => walk_at "bd"))
  | ((with_reducible refine' Bd.neg ?b1); (case b1 => walk_at "bd"))
  | ((with_reducible refine' Bd.pow3 ?b1); (case b1 => walk_at "bd"))
  | ((with_reducible refine' Bd.pow2 ?b1); (case b1 => walk_at "bd"))
  | ((with_reducible refine' Bd.modP ?m1 ?m2); (case m1 => walk_at "bd"); (case m2 => first | decide | omega))
  | ((with_reducible refine' Bd.div ?m1 ?m2); (case m1 => walk_at "bd"); (case m2 => first | decide | omega)))
local macro_rules | `(tactic| walk_at "mul") => `(tactic| first
  | exact mulS1 (by decide) | exact mulS2 (by decide)
  | exact mulS1 (by assumption) | exact mulS2 (by assumption)
  | (refine' mulB ?m1 ?m2 ?m3 ?m4; (case m1 => walk_at "bd"); (case m2 => walk_at "bd"); (case m3 => decide); (case m4 => decide)))
local macro_rules | `(tactic| walk_at "big") => `(tactic| first
  | assumption
  | decide
  | (refine' Bd.big ?m1 ?m2; (case m1 => walk_at "bd"); (case m2 => decide)))
local macro_rules | `(tactic| walk_at "e") => `(tactic| first
  | ((with_reducible refine' we_var ?w1 ?_); (case w1 => exact rfl))
  | ((with_reducible refine' we_varO ?w1 ?w2 ?_); (case w1 => exact rfl); (case w2 => exact rfl))
  | with_reducible refine' we_cst ?_
  | with_reducible refine' we_gcn ?_
  | with_reducible refine' we_bin ?_
  | with_reducible refine' we_cmp ?_
  | ((with_reducible refine' we_idv ?w1 ?_); (case w1 => exact rfl))
  | ((with_reducible refine' we_idvO ?w1 ?_); (case w1 => exact rfl))
  | with_reducible refine' we_call ?_
  | ((with_reducible refine' we_cio ?w1 ?_); (case w1 => exact rfl))
  | with_reducible refine' we_blt ?_
  | with_reducible refine' we_nil ?_
  | with_reducible refine' we_cons ?_
  | ((with_reducible refine' wn_e ?w1 ?_); (case w1 => walk_at "set"))
  | ((with_reducible refine' wn_a ?w1 ?_); (case w1 => walk_at "set"))
  | ((with_reducible refine' wn_p ?w1 ?_); (case w1 => walk_at "set"))
  | ((with_reducible refine' wn_o ?w1 ?_); (case w1 => walk_at "set"))
  | with_reducible refine' we_tup ?_
  | with_reducible refine' we_lst ?_
  | with_reducible refine' we_idx ?_
  | with_reducible refine' we_not ?_
  | with_reducible refine' we_neg ?_
  | with_reducible refine' we_chn ?_
  | with_reducible refine' we_ite ?_
  | with_reducible refine' we_isi ?_
  | with_reducible refine' we_slc ?_
  | with_reducible refine' we_rev ?_
  | with_reducible refine' we_lr1 ?_
  | with_reducible refine' we_lr2 ?_
  | with_reducible refine' we_mnd ?_
  | with_reducible refine' we_gcd ?_
  | with_reducible refine' we_srs ?_
  | with_reducible refine' we_mth ?_
  | with_reducible refine' we_dct ?_
  | with_reducible refine' we_comp ?_
  | ((with_reducible refine' we_rpo ?w1 ?_); (case w1 => exact rfl))
  | with_reducible refine' evO_none ?_
  | with_reducible refine' evO_some ?_
  | with_reducible refine' wo_lst ?_
  | with_reducible refine' wo_comp ?_
  | with_reducible refine' wo_list ?_
  | with_reducible refine' wo_srt ?_
  | with_reducible refine' wo_ite ?_
  | with_reducible refine' wo_call ?_
  | ((with_reducible refine' wo_cio ?w1 ?_); (case w1 => exact rfl))
  | with_reducible refine' wp_nil ?_
  | with_reducible refine' wp_own ?_
  | with_reducible refine' wp_ev ?_)
local macro_rules | `(tactic| walk_at "x") => `(tactic| first
  | with_reducible refine' ex_add ?_
  | ((with_reducible refine' ex_cat ?w1 ?_); (case w1 => first | (simp only [List.length_append, List.length_cons, List.length_nil]; omega)))
  | with_reducible refine' ex_sub ?_
  | with_reducible refine' ex_augA ?_
  | with_reducible refine' ex_augS ?_
  | ((with_reducible refine' ex_mul ?w1 ?_); (case w1 => walk_at "mul"))
  | ((with_reducible refine' ex_mod ?w1 ?_); (case w1 => first | decide | omega))
  | ((with_reducible refine' ex_fdiv ?w1 ?w2 ?_); (case w1 => first | decide | omega); (case w2 => walk_at "big"))
  | with_reducible refine' xo_tru ?_
  | with_reducible refine' xo_bool ?_
  | with_reducible refine' xo_int ?_
  | ((with_reducible refine' xo_at ?w1 ?_); (case w1 => exact rfl))
  | ((with_reducible refine' xo_atL ?w1 ?_); (case w1 => exact rfl))
  | ((with_reducible refine' xo_ix ?w1 ?_); (case w1 => exact rfl))
  | ((with_reducible refine' xo_tg ?w1 ?_); (case w1 => exact rfl))
  | ((with_reducible refine' xo_pa ?w1 ?_); (case w1 => exact rfl))
  | ((with_reducible refine' xo_sub0 ?w1 ?w2 ?_); (case w1 => exact rfl); (case w2 => first | decide | omega))
  | ((with_reducible refine' xo_sub1 ?w1 ?w2 ?_); (case w1 => exact rfl); (case w2 => first | decide | omega))
  | ((with_reducible refine' xo_sub2 ?w1 ?w2 ?_); (case w1 => exact rfl); (case w2 => first | decide | omega))
  | ((with_reducible refine' xo_sub ?w1 ?w2 ?_); (case w1 => exact rfl); (case w2 => exact rfl))
  | ((with_reducible refine' xo_app ?w1 ?w2 ?_); (case w1 => exact rfl); (case w2 => first | decide | (simp only [List.length_append, List.length_cons, List.length_nil]; omega)))
  | with_reducible refine' xb_int ?_
  | with_reducible refine' xb_max ?_
  | with_reducible refine' xb_min ?_
  | with_reducible refine' xb_abs ?_
  | with_reducible refine' xb_len ?_
  | with_reducible refine' xb_lenT ?_
  | with_reducible refine' xn_neg ?_
  | ((with_reducible refine' xb_divmod ?w1 ?w2 ?_); (case w1 => first | decide | omega); (case w2 => walk_at "big"))
  | ((with_reducible refine' xl ?w1 ?_); (case w1 => first | (simp only [List.length_append, List.length_cons, List.length_nil]; omega)))
  | ((with_reducible refine' xl' ?w1 ?_); (case w1 => first | (simp only [List.length_append, List.length_cons, List.length_nil]; omega)))
  | with_reducible refine' x_rr ?_
  | with_reducible refine' xi_int ?_
  | with_reducible refine' xi_bool ?_
  | ((with_reducible refine' nt_pos ?_))
  | ((with_reducible refine' nt_neg ?_))
  | ((with_reducible refine' tf_pos ?_))
  | ((with_reducible refine' tf_neg ?_))
  | ((with_reducible refine' dec_pos ?w1 ?_); (case w1 => first | with_reducible rfl | assumption | omega))
  | ((with_reducible refine' dec_neg ?w1 ?_); (case w1 => first | with_reducible rfl | assumption | omega))
  | ((with_reducible refine' ndec_pos ?w1 ?_); (case w1 => first | with_reducible rfl | assumption | omega))
  | ((with_reducible refine' ndec_neg ?w1 ?_); (case w1 => first | with_reducible rfl | assumption | omega))
  | with_reducible refine' ex_lt ?_
  | with_reducible refine' ex_le ?_
  | with_reducible refine' ex_gt ?_
  | with_reducible refine' ex_ge ?_
  | with_reducible refine' ex_eq ?_
  | with_reducible refine' ex_ne ?_
  | with_reducible refine' ex_eqS ?_
  | with_reducible refine' ex_neS ?_
  | ((with_reducible refine' ex_reprI ?w1 ?_); (case w1 => first | (refine' Bd.up ?m1 ?m2); (case m1 => walk_at "bd"); (case m2 => decide)))
  | with_reducible refine' ex_reprB ?_
  | ((with_reducible refine' xq3 ?w1 ?_); (case w1 => walk_at "big"))
  | ((with_reducible refine' xq2 ?w1 ?_); (case w1 => walk_at "big"))
  | first | with_reducible refine' xt2 ?_ | with_reducible refine' xt3 ?_ | with_reducible refine' xt4 ?_ | with_reducible refine' xt5 ?_ | with_reducible refine' xt6 ?_ | with_reducible refine' xt7 ?_ | with_reducible refine' xt8 ?_ | with_reducible refine' xt9 ?_ | with_reducible refine' xt10 ?_ | with_reducible refine' xt12 ?_ | with_reducible refine' xt16 ?_ | with_reducible refine' xt17 ?_ | with_reducible refine' xt18 ?_ | with_reducible refine' xt19 ?_ | with_reducible refine' xt20 ?_ | with_reducible refine' xt21 ?_ | with_reducible refine' xt22 ?_ | with_reducible refine' xt23 ?_ | with_reducible refine' xt24 ?_ | with_reducible refine' xt25 ?_ | with_reducible refine' xt26 ?_ | with_reducible refine' xt27 ?_ | with_reducible refine' xt28 ?_ | with_reducible refine' xt29 ?_ | with_reducible refine' xt30 ?_ | with_reducible refine' xt38 ?_ | with_reducible refine' xt41 ?_ | with_reducible refine' xt44 ?_ | with_reducible refine' xt46 ?_ | with_reducible refine' xt50 ?_ | with_reducible refine' xt60 ?_
  | with_reducible refine' xp1 ?_ | with_reducible refine' xp2 ?_ | with_reducible refine' xp21 ?_ | with_reducible refine' xp3 ?_ | with_reducible refine' xp321 ?_
  | with_reducible refine' xp4 ?_ | with_reducible refine' xp4321 ?_ | with_reducible refine' xp5 ?_ | with_reducible refine' xp54321 ?_ | with_reducible refine' xp6 ?_ | with_reducible refine' xp0 ?_)
local macro_rules | `(tactic| walk_at "s") => `(tactic| first
  | ((with_reducible refine' wn_s ?w1 ?_); (case w1 => walk_at "set"))
  | ((with_reducible refine' ws_asg ?w1 ?_); (case w1 => exact rfl))
  | ((with_reducible refine' ws_own ?w1 ?_); (case w1 => exact rfl))
  | with_reducible refine' ws_par ?_
  | ((with_reducible refine' ws_aug ?w1 ?w2 ?_); (case w1 => exact rfl); (case w2 => exact rfl))
  | with_reducible refine' ws_unp ?_
  | ((with_reducible refine' ws_sub ?w1 ?_); (case w1 => exact rfl))
  | ((with_reducible refine' ws_app ?w1 ?_); (case w1 => exact rfl))
  | with_reducible refine' ws_exp ?_
  | with_reducible refine' ws_pas ?_
  | with_reducible refine' ws_iff ?_
  | with_reducible refine' ws_ret ?_
  | with_reducible refine' ws_retO ?_
  | with_reducible refine' ws_retN ?_
  | ((with_reducible refine' ws_retV ?w1 ?_); (case w1 => exact rfl))
  | ((with_reducible refine' ws_retVO ?w1 ?w2 ?_); (case w1 => exact rfl); (case w2 => exact rfl))
  | with_reducible refine' ws_nilq ?_
  | with_reducible refine' ws_nill ?_
  | with_reducible refine' ws_nil ?_)
local macro_rules | `(tactic| walk_at "w") => `(tactic| (repeat' (first | walk_at "e" | walk_at "s" | walk_at "x")))
local macro_rules | `(tactic| walk_at "pk") => `(tactic| (repeat' (first | exact fun _ hx => absurd hx (List.not_mem_nil) | refine List.forall_mem_cons.2 ⟨?_, ?_⟩)))
local macro_rules | `(tactic| walk_at "bdu") => `(tactic| (refine' Bd.up ?m1 ?m2; (case m1 => walk_at "bd"); (case m2 => decide)))
local macro_rules | `(tactic| walk_at "len") => `(tactic| (simp only [List.length_cons, List.length_nil]; omega))
variable {tbl : List (Str × De)} {n : Nat} {P S L : Int} {d : Str}
theorem stD_len (l : List (Int × Int)) : (stD l).length = l.length := List.length_map ..
theorem stD_app (l : List (Int × Int)) (p : Int × Int) : stD l ++ [pr p] = stD (l ++ [p]) := by
  unfold stD
  rw [List.map_append]
  rfl
theorem common_ok (k : Lk tbl "common_stretches" 7 2 false c_common_stretches) {l m : List (Int × Int)} (h : (l.length + 1) * m.length ≤ 90000) : calN tbl (n + 1) "common_stretches" [.list (stD l), .list (stD m)] = .ok (.list (stD (Lit.com l m))) none := by
  refine wc_run (P := fun z => z = _) k rfl ?_
  show WS (evB (calN tbl n) false c_common_stretches [some (.list (stD l), false), some (.list (stD m), false), none, none, none, none, none]) _
  unfold c_common_stretches
  walk_at "w"
  refine ws_fr (fun i ρ => ∃ (o3 o4 o5 o6 : Option (D × Bool)), ρ = [some (.list (stD l), false), some (.list (stD m), false), some (.list (stD (Lit.com (l.take i) m)), true), o3, o4, o5, o6]) ?_
  walk_at "w"
  refine ⟨_, rfl, ⟨_, _, _, _, rfl⟩, ?_, ?_⟩
  · rintro i x ρ hx ⟨o3, o4, o5, o6, rfl⟩
    have hi : i < l.length := by
      have h1 := (List.getElem?_eq_some_iff.mp hx).1
      rw [stD_len] at h1
      exact h1
    obtain ⟨p, hp, rfl, hm, ht⟩ := stD_at hx
    refine ⟨_, rfl, ?_⟩
    refine ws_fr (fun j ρ => ∃ (o5 o6 : Option (D × Bool)), ρ = [some (.list (stD l), false), some (.list (stD m), false), some (.list (stD (Lit.com (l.take i) m ++ Lit.pcs p (m.take j))), true), some (.int p.1, false), some (.int p.2, false), o5, o6]) ?_
    walk_at "w"
    refine ⟨_, rfl, ?_, ?_, ?_⟩
    · rw [List.take_zero, show Lit.pcs p [] = [] from rfl, List.append_nil]
      exact ⟨o5, o6, rfl⟩
    · rintro j x ρ hy ⟨o5, o6, rfl⟩
      have hj : j < m.length := by
        have h1 := (List.getElem?_eq_some_iff.mp hy).1
        rw [stD_len] at h1
        exact h1
      obtain ⟨q, hq, rfl, hm', ht'⟩ := stD_at hy
      have ln : (stD (Lit.com (l.take i) m ++ Lit.pcs p (m.take j))).length < 100000 := by
        rw [stD_len, List.length_append]
        have h1 := Lit.com_le m (l.take i)
        have h2 := Lit.pcs_le p (m.take j)
        rw [List.length_take] at h1 h2
        have h3 := Nat.mul_le_mul (show min i l.length ≤ l.length from Nat.min_le_right _ _) (Nat.le_refl m.length)
        rw [Nat.succ_mul] at h
        have h4 := Nat.min_le_right j m.length
        omega
      refine ⟨_, rfl, ?_⟩
      rw [ht', Lit.pcs_snoc, ← List.append_assoc]
      walk_at "w"
      refine we_and ?_
      walk_at "w"
      refine dec_both (fun c1 => ?_) (fun c1 => ?_)
      · walk_at "w"
        refine dec_both (fun c2 => ?_) (fun c2 => ?_)
        · rw [if_pos (show Lit.meets p q = true by unfold Lit.meets; rw [decide_eq_true c1, decide_eq_true c2]; rfl)]
          walk_at "w"
          refine ⟨ln, ?_⟩
          walk_at "w"
          rw [← stD_app]
          exact ⟨_, _, rfl⟩
        · rw [if_neg (show ¬Lit.meets p q = true by unfold Lit.meets; rw [decide_eq_false c2, Bool.and_false]; exact Bool.false_ne_true), List.append_nil]
          walk_at "w"
          exact ⟨_, _, rfl⟩
      · rw [if_neg (show ¬Lit.meets p q = true by unfold Lit.meets; rw [decide_eq_false c1, Bool.false_and]; exact Bool.false_ne_true), List.append_nil]
        walk_at "w"
        exact ⟨_, _, rfl⟩
    · rintro ρ ⟨o5, o6, rfl⟩
      rw [stD_len, List.take_length, ht, Lit.com_snoc]
      walk_at "w"
      exact ⟨_, _, _, _, rfl⟩
  · rintro ρ ⟨o3, o4, o5, o6, rfl⟩
    rw [stD_len, List.take_length]
    walk_at "w"
    rfl
theorem sst_le (R L st E N : Int) : (Lit.sst R L st E N).length ≤ 2 := by
  unfold Lit.sst Lit.wrp
  repeat' split
  all_goals simp
theorem clear_ok (kw : Lk tbl "wrapped" 5 3 false c_wrapped) (ks : Lk tbl "seen_stretches" 14 3 false c_seen_stretches) (kc : Lk tbl "common_stretches" 7 2 false c_common_stretches) (k : Lk tbl "clear_stretches" 4 2 false c_clear_stretches)
    (v : Val P S L d) {E N : Int} (bE : Bd 500 E) (hR : P * S ≤ 1000) : calN tbl (n + 3) "clear_stretches" [dsp P S L d, cam E N] = .ok (.list (stD (Lit.clr (P * S) L S E N (P - 1).toNat))) none := by
  have p1 := v.p1
  have l0 : 0 < L := by have := v.l1; omega
  have R0 := v.sR.2
  have e0 := seen_ok (n := n) kw ks v (j := 0) (Int.le_refl _) (by omega) (E := E) (N := N) bE
  refine wc_run (P := fun z => z = _) k rfl ?_
  show WS (evB (calN tbl (n + 2)) false c_clear_stretches [some (dsp P S L d, false), some (cam E N, false), none, none]) _
  unfold c_clear_stretches
  walk_at "w"
  refine we_ret e0 ?_
  walk_at "w"
  refine ws_fr (fun i ρ => ∃ (o3 : Option (D × Bool)), ρ = [some (dsp P S L d, false), some (cam E N, false), some (.list (stD (Lit.clr (P * S) L S E N i)), false), o3]) ?_
  walk_at "w"
  refine ⟨_, rfl, ⟨_, rfl⟩, ?_, ?_⟩
  · rintro i x ρ hx ⟨o3, rfl⟩
    obtain ⟨rfl, hi⟩ : x = .int ((i + 1 : Nat) : Int) ∧ ((i + 1 : Nat) : Int) < P := by
      unfold rngL at hx
      rw [List.getElem?_map] at hx
      cases q : (List.range (P - 1).toNat)[i]? with
      | none => rw [q] at hx; cases hx
      | some y =>
        rw [q] at hx
        obtain ⟨h1, h2⟩ := List.getElem?_eq_some_iff.mp q
        rw [List.getElem_range] at h2
        subst h2
        rw [List.length_range] at h1
        cases hx
        exact ⟨by show PyData.int ((1 : Int) + (i : Nat)) = _; rw [show (1 : Int) + (i : Nat) = ((i + 1 : Nat) : Int) by omega], by omega⟩
    have e1 := seen_ok (n := n) kw ks v (j := ((i + 1 : Nat) : Int)) (by omega) hi (E := E) (N := N) bE
    have ln := (Lit.clr_can l0 v.lR S E N i).len' (by omega)
    have sl := sst_le (P * S) L (((i + 1 : Nat) : Int) * S) E N
    have e2 := common_ok (n := n + 1) kc (l := Lit.clr (P * S) L S E N i) (m := Lit.sst (P * S) L (((i + 1 : Nat) : Int) * S) E N) (by
      have := Nat.mul_le_mul (show (Lit.clr (P * S) L S E N i).length + 1 ≤ 1001 by omega) sl
      omega)
    refine ⟨_, rfl, ?_⟩
    walk_at "w"
    refine we_ret e1 ?_
    walk_at "w"
    refine we_ret e2 ?_
    walk_at "w"
    exact ⟨_, rfl⟩
  · rintro ρ ⟨o3, rfl⟩
    rw [rng_len', show (P - 1).toNat = (P - 1).toNat from rfl]
    walk_at "w"
    rfl
theorem left_ok (k : Lk tbl "left_out" 6 2 false c_left_out) {l : List (Int × Int)} {R : Int} (hl : l.length ≤ 90000) : calN tbl (n + 1) "left_out" [.list (stD l), .int R] = .ok (.list (stD (Lit.lft 0 l R))) none := by
  refine wc_run (P := fun z => z = _) k rfl ?_
  show WS (evB (calN tbl n) false c_left_out [some (.list (stD l), false), some (.int R, false), none, none, none, none]) _
  unfold c_left_out
  walk_at "w"
  refine ws_fr (fun i ρ => ∃ (F : List (Int × Int)) (a : Int) (o4 o5 : Option (D × Bool)), ρ = [some (.list (stD l), false), some (.int R, false), some (.list (stD F), true), some (.int a, false), o4, o5] ∧ F.length ≤ i ∧ F ++ Lit.lft a (l.drop i) R = Lit.lft 0 l R) ?_
  walk_at "w"
  refine ⟨_, rfl, ⟨[], 0, _, _, rfl, Nat.le_refl _, rfl⟩, ?_, ?_⟩
  · rintro i x ρ hx ⟨F, a, o4, o5, rfl, hF, e⟩
    obtain ⟨p, hp, rfl, hm, ht⟩ := stD_at hx
    obtain ⟨hi, ei⟩ := List.getElem?_eq_some_iff.mp hp
    rw [List.drop_eq_getElem_cons hi, ei, Lit.lft, ← List.append_assoc] at e
    refine ⟨_, rfl, ?_⟩
    walk_at "w"
    refine dec_both (fun c => ?_) (fun c => ?_)
    · rw [if_pos c] at e
      walk_at "w"
      refine ⟨by rw [stD_len]; omega, ?_⟩
      walk_at "w"
      rw [show stD F ++ [PyData.tuple [PyData.int a, PyData.int (p.1 - 1)]] = stD (F ++ [(a, p.1 - 1)]) from stD_app F (a, p.1 - 1)]
      exact ⟨F ++ [(a, p.1 - 1)], _, _, _, rfl, by rw [List.length_append, List.length_singleton]; omega, e⟩
    · rw [if_neg c, List.append_nil] at e
      walk_at "w"
      exact ⟨F, _, _, _, rfl, by omega, e⟩
  · rintro ρ ⟨F, a, o4, o5, rfl, hF, e⟩
    rw [stD_len, List.drop_length, Lit.lft] at e
    rw [stD_len] at hF
    walk_at "w"
    refine dec_both (fun c => ?_) (fun c => ?_)
    · rw [if_pos c] at e
      walk_at "w"
      refine ⟨by rw [stD_len]; omega, ?_⟩
      walk_at "w"
      rw [show stD F ++ [PyData.tuple [PyData.int a, PyData.int (R - 1)]] = stD (F ++ [(a, R - 1)]) from stD_app F (a, R - 1), e]
      rfl
    · rw [if_neg c, List.append_nil] at e
      walk_at "w"
      rw [e]
      rfl
/-! rounds of any length -/
theorem clr_small (R L S E N : Int) : ∀ k : Nat, (Lit.clr R L S E N k).length ≤ 2 ^ (k + 1)
  | 0 => sst_le R L (0 * S) E N
  | k + 1 => by
    have h1 := Lit.com_le (Lit.sst R L (((k + 1 : Nat) : Int) * S) E N) (Lit.clr R L S E N k)
    have h2 := Nat.mul_le_mul (clr_small R L S E N k) (sst_le R L (((k + 1 : Nat) : Int) * S) E N)
    rw [Nat.pow_succ]
    exact Nat.le_trans h1 h2
theorem clr_256 {P : Int} (p8 : P ≤ 8) (R L S E N : Int) {i : Nat} (hi : i ≤ (P - 1).toNat) : (Lit.clr R L S E N i).length ≤ 256 := Nat.le_trans (clr_small R L S E N i) ((show 2 ^ (i + 1) ≤ 2 ^ 8 from Nat.pow_le_pow_right (by decide) (by omega)))
theorem clear_all (kw : Lk tbl "wrapped" 5 3 false c_wrapped) (ks : Lk tbl "seen_stretches" 14 3 false c_seen_stretches) (kc : Lk tbl "common_stretches" 7 2 false c_common_stretches) (k : Lk tbl "clear_stretches" 4 2 false c_clear_stretches)
    (v : Val P S L d) {E N : Int} (bE : Bd 500 E) : calN tbl (n + 3) "clear_stretches" [dsp P S L d, cam E N] = .ok (.list (stD (Lit.clr (P * S) L S E N (P - 1).toNat))) none := by
  have p1 := v.p1
  have p8 := v.p8
  have e0 := seen_ok (n := n) kw ks v (j := 0) (Int.le_refl _) (by omega) (E := E) (N := N) bE
  refine wc_run (P := fun z => z = _) k rfl ?_
  show WS (evB (calN tbl (n + 2)) false c_clear_stretches [some (dsp P S L d, false), some (cam E N, false), none, none]) _
  unfold c_clear_stretches
  walk_at "w"
  refine we_ret e0 ?_
  walk_at "w"
  refine ws_fr (fun i ρ => ∃ (o3 : Option (D × Bool)), ρ = [some (dsp P S L d, false), some (cam E N, false), some (.list (stD (Lit.clr (P * S) L S E N i)), false), o3]) ?_
  walk_at "w"
  refine ⟨_, rfl, ⟨_, rfl⟩, ?_, ?_⟩
  · rintro i x ρ hx ⟨o3, rfl⟩
    obtain ⟨rfl, hi⟩ : x = .int ((i + 1 : Nat) : Int) ∧ ((i + 1 : Nat) : Int) < P := by
      unfold rngL at hx
      rw [List.getElem?_map] at hx
      cases q : (List.range (P - 1).toNat)[i]? with
      | none => rw [q] at hx; cases hx
      | some y =>
        rw [q] at hx
        obtain ⟨h1, h2⟩ := List.getElem?_eq_some_iff.mp q
        rw [List.getElem_range] at h2
        subst h2
        rw [List.length_range] at h1
        cases hx
        exact ⟨by show PyData.int ((1 : Int) + (i : Nat)) = _; rw [show (1 : Int) + (i : Nat) = ((i + 1 : Nat) : Int) by omega], by omega⟩
    have e1 := seen_ok (n := n) kw ks v (j := ((i + 1 : Nat) : Int)) (by omega) hi (E := E) (N := N) bE
    have ln := clr_256 p8 (P * S) L S E N (i := i) (by omega)
    have sl := sst_le (P * S) L (((i + 1 : Nat) : Int) * S) E N
    have e2 := common_ok (n := n + 1) kc (l := Lit.clr (P * S) L S E N i) (m := Lit.sst (P * S) L (((i + 1 : Nat) : Int) * S) E N) (by
      have := Nat.mul_le_mul (show (Lit.clr (P * S) L S E N i).length + 1 ≤ 257 by omega) sl
      omega)
    refine ⟨_, rfl, ?_⟩
    walk_at "w"
    refine we_ret e1 ?_
    walk_at "w"
    refine we_ret e2 ?_
    walk_at "w"
    exact ⟨_, rfl⟩
  · rintro ρ ⟨o3, rfl⟩
    rw [rng_len', show (P - 1).toNat = (P - 1).toNat from rfl]
    walk_at "w"
    rfl
/-- the begins at which all places are seen, those at which some is not -/
def clL (P S L E N : Int) : List (Int × Int) := Lit.clr (P * S) L S E N (P - 1).toNat
def dkL (P S L E N : Int) : List (Int × Int) := Lit.lft 0 (clL P S L E N) (P * S)
theorem clL_can (v : Val P S L d) (E N : Int) : Lit.Can 0 (P * S) (clL P S L E N) := Lit.clr_can (by have := v.l1; omega) v.lR S E N _
theorem clL_good (v : Val P S L d) (E N : Int) : Good (P * S) (clL P S L E N) := fun p hp => (clL_can v E N).mem' p hp
theorem dkL_good (v : Val P S L d) (E N : Int) : Good (P * S) (dkL P S L E N) := fun p hp => Lit.lft_mem (clL_can v E N) p hp
theorem clL_len (v : Val P S L d) (E N : Int) : (clL P S L E N).length ≤ 256 := clr_256 v.p8 (P * S) L S E N (Nat.le_refl _)
theorem dkL_len (v : Val P S L d) (E N : Int) : (dkL P S L E N).length ≤ 257 := Nat.le_trans (Lit.lft_len _ _ _) (by have := clL_len v E N; omega)
theorem lft_can : ∀ {L : List (Int × Int)} {a R : Int}, Lit.Can a R L → Lit.Can a R (Lit.lft a L R)
  | [], a, R, _ => by
    unfold Lit.lft
    split
    · exact ⟨Int.le_refl _, by show a ≤ R - 1; omega, by show R - 1 < R; omega, trivial⟩
    · trivial
  | p :: L, a, R, h => by
    obtain ⟨h1, h2, h3, h4⟩ := h
    have ih := lft_can (h4.weak (show p.2 + 1 ≤ p.2 + 2 by omega) (Int.le_refl R))
    unfold Lit.lft
    split
    · exact ⟨Int.le_refl _, by show a ≤ p.1 - 1; omega, by show p.1 - 1 < R; omega, ih.weak (by show p.1 - 1 + 2 ≤ p.2 + 1; omega) (Int.le_refl R)⟩
    · exact ih.weak (by omega) (Int.le_refl R)
theorem dkL_can (v : Val P S L d) (E N : Int) : Lit.Can 0 (P * S) (dkL P S L E N) := lft_can (clL_can v E N)
theorem darks_all (kw : Lk tbl "wrapped" 5 3 false c_wrapped) (ks : Lk tbl "seen_stretches" 14 3 false c_seen_stretches) (kc : Lk tbl "common_stretches" 7 2 false c_common_stretches) (kl : Lk tbl "clear_stretches" 4 2 false c_clear_stretches) (ko : Lk tbl "left_out" 6 2 false c_left_out)
    (k : Lk tbl "dark_stretches" 2 2 false c_dark_stretches) (v : Val P S L d) {E N : Int} (bE : Bd 500 E) : calN tbl (n + 4) "dark_stretches" [dsp P S L d, cam E N] = .ok (.list (stD (dkL P S L E N))) none := by
  have e1 := clear_all (n := n) kw ks kc kl v (N := N) bE
  have e2 := left_ok (n := n + 2) ko (l := clL P S L E N) (R := P * S) (by have := clL_len v E N; omega)
  have bP := v.pb
  have bS := v.sb
  refine wc_run (P := fun z => z = _) k rfl ?_
  show WS (evB (calN tbl (n + 3)) false c_dark_stretches [some (dsp P S L d, false), some (cam E N, false)]) _
  unfold c_dark_stretches
  walk_at "w"
  refine we_ret e1 ?_
  walk_at "w"
  refine we_ret e2 ?_
  walk_at "w"
  rfl
end Ev

set_option Elab.async false
set_option linter.all false
set_option maxRecDepth 100000
set_option maxHeartbeats 4000000
namespace Lit
/-! ## the ring in pieces -/
/-- the first begin at which place 0 is seen, and how many there are -/
def arcF (R L E N : Int) : Int := if N - E / R * L ≤ (if E % R - R + L > 0 then E % R - R + L else 0) then 0 else N - E / R * L - E % R
def arcC (R L E N : Int) : Int := if N - E / R * L ≤ (if E % R - R + L > 0 then E % R - R + L else 0) then R else E % R + L - 2 * (N - E / R * L) + 1
variable {R L : Int}
theorem at_mod {t x : Int} (t0 : 0 ≤ t) (t1 : t < R) (h : (t - x) % R = 0) : t = x % R := by
  have e := Int.mul_ediv_add_emod (t - x) R
  rw [h, Int.add_zero] at e
  have : x = t + R * (-((t - x) / R)) := by rw [Int.mul_neg]; omega
  rw [this, Int.add_mul_emod_self_left, Int.emod_eq_of_lt t0 t1]
/-- a place is newly seen, or no longer, at the ends of its arc alone -/
theorem sst_chg (hL : 0 < L) (hR : L ≤ R) (st E N : Int) {t : Int} (t0 : 0 < t) (t1 : t < R) (h : inn (sst R L st E N) t ≠ inn (sst R L st E N) (t - 1)) : t = (arcF R L E N + st) % R ∨ t = (arcF R L E N + arcC R L E N + st) % R := by
  have R0 : 0 < R := by omega
  have l0 := Int.emod_nonneg E (show R ≠ 0 by omega)
  have l1 := Int.emod_lt_of_pos E R0
  unfold sst at h
  by_cases c : N - E / R * L ≤ (if E % R + L - R > 0 then E % R + L - R else 0)
  · rw [if_pos c] at h
    exfalso
    apply h
    rw [inn, inn, inn, inn, decide_eq_true (show (0 : Int) ≤ t by omega), decide_eq_true (show t ≤ R - 1 by omega), decide_eq_true (show (0 : Int) ≤ t - 1 by omega), decide_eq_true (show t - 1 ≤ R - 1 by omega)]
  · rw [if_neg c] at h
    by_cases c2 : (if L < E % R then L else E % R) < N - E / R * L
    · rw [if_pos c2] at h
      exact absurd rfl h
    · rw [if_neg c2] at h
      have c' : ¬ N - E / R * L ≤ (if E % R - R + L > 0 then E % R - R + L else 0) := by
        rw [show E % R - R + L = E % R + L - R by omega]
        exact c
      unfold arcF arcC
      rw [if_neg c', if_neg c']
      generalize hq : N - E / R * L = q at *
      generalize hl : E % R = l at *
      have q1 : q ≤ l ∧ q ≤ L := by split at c2 <;> omega
      have q2 : 0 < q ∧ l + L - R < q := by split at c <;> omega
      have hx : st + q - l ≤ st + L - q := by omega
      rw [(wrp_both R0 hx).2 t (by omega) t1, (wrp_both R0 hx).2 (t - 1) (by omega) (by omega)] at h
      have e := Int.mul_ediv_add_emod (t - (st + q - l)) R
      have m0 := Int.emod_nonneg (t - (st + q - l)) (show R ≠ 0 by omega)
      have m1 := Int.emod_lt_of_pos (t - (st + q - l)) R0
      by_cases z : (t - (st + q - l)) % R = 0
      · left
        rw [show q - l + st = st + q - l by omega]
        exact at_mod (by omega) t1 z
      · right
        have e2 : (t - 1 - (st + q - l)) % R = (t - (st + q - l)) % R - 1 := by
          refine emod_at (q := (t - (st + q - l)) / R) (by omega) (by omega) ?_
          rw [Int.mul_comm]
          omega
        rw [e2] at h
        have k : (t - (st + q - l)) % R = l + L - 2 * q + 1 := by
          refine Classical.byContradiction fun k => h ?_
          rw [decide_eq_decide]
          omega
        refine at_mod (by omega) t1 ?_
        have : t - (q - l + (l + L - 2 * q + 1) + st) = R * ((t - (st + q - l)) / R) := by omega
        rw [this]
        exact Int.mul_emod_right _ _
theorem clr_chg (hL : 0 < L) (hR : L ≤ R) (S E N : Int) {t : Int} (t0 : 0 < t) (t1 : t < R) : ∀ k : Nat, inn (clr R L S E N k) t ≠ inn (clr R L S E N k) (t - 1) → ∃ j : Nat, j ≤ k ∧ (t = (arcF R L E N + (j : Int) * S) % R ∨ t = (arcF R L E N + arcC R L E N + (j : Int) * S) % R)
  | 0, h => ⟨0, Nat.le_refl _, sst_chg hL hR _ E N t0 t1 h⟩
  | k + 1, h => by
    unfold clr at h
    rw [com_inn, com_inn] at h
    by_cases c : inn (clr R L S E N k) t = inn (clr R L S E N k) (t - 1)
    · by_cases c2 : inn (sst R L (((k + 1 : Nat) : Int) * S) E N) t = inn (sst R L (((k + 1 : Nat) : Int) * S) E N) (t - 1)
      · rw [c, c2] at h
        exact absurd rfl h
      · exact ⟨k + 1, Nat.le_refl _, sst_chg hL hR _ E N t0 t1 c2⟩
    · obtain ⟨j, h1, h2⟩ := clr_chg hL hR S E N t0 t1 k c
      exact ⟨j, by omega, h2⟩
/-- the pieces between cuts -/
def pcR (s : Int → Bool) : List Int → List (Int × Int × Bool)
  | a :: b :: l => (a, b - a, s a) :: pcR s (b :: l)
  | _ => []
theorem pcR_len (s : Int → Bool) : ∀ l : List Int, (pcR s l).length ≤ l.length
  | [] => Nat.zero_le _
  | [a] => Nat.zero_le _
  | a :: b :: l => by
    unfold pcR
    rw [List.length_cons, List.length_cons]
    have := pcR_len s (b :: l)
    omega
theorem pcR_in (s : Int → Bool) {lo hi : Int} : ∀ {l : List Int}, l.Pairwise (· < ·) → (∀ x ∈ l, lo ≤ x ∧ x ≤ hi) → ∀ q ∈ pcR s l, lo ≤ q.1 ∧ 0 < q.2.1 ∧ q.1 + q.2.1 ≤ hi
  | [], _, _, q, hq => by cases hq
  | [a], _, _, q, hq => by cases hq
  | a :: b :: l, hp, h, q, hq => by
    unfold pcR at hq
    rcases List.mem_cons.mp hq with rfl | hq
    · have h1 := h a List.mem_cons_self
      have h2 := h b (List.mem_cons_of_mem _ List.mem_cons_self)
      have h3 := (List.pairwise_cons.mp hp).1 b List.mem_cons_self
      exact ⟨h1.1, by show 0 < b - a; omega, by show a + (b - a) ≤ hi; omega⟩
    · exact pcR_in s (List.pairwise_cons.mp hp).2 (fun x hx => h x (List.mem_cons_of_mem _ hx)) q hq
/-- whether a begin stands in a piece of this kind -/
def pcI (f : Bool) (x : Int) (q : Int × Int × Bool) : Int := if q.2.2 = f then ind q.1 (q.1 + q.2.1 - 1) x else 0
theorem pc_lo (s : Int → Bool) (f : Bool) {x : Int} : ∀ {l : List Int}, l.Pairwise (· < ·) → (∀ y ∈ l, x < y) → ((pcR s l).map (pcI f x)).sum = 0
  | [], _, _ => rfl
  | [a], _, _ => rfl
  | a :: b :: l, hp, h => by
    unfold pcR
    rw [List.map_cons, List.sum_cons, pc_lo s f (List.pairwise_cons.mp hp).2 (fun y hy => h y (List.mem_cons_of_mem _ hy))]
    unfold pcI
    have ha := h a List.mem_cons_self
    have : ind a (a + (b - a) - 1) x = 0 := (ind_01 _ _ _).resolve_right fun z => by
      have := (ind_one.mp z).1
      omega
    simp only [this]
    split <;> rfl
theorem same_on {s : Int → Bool} {a : Int} : ∀ n : Nat, (∀ t, a < t → t ≤ a + n → s t = s (t - 1)) → s (a + n) = s a
  | 0, _ => by rw [show a + ((0 : Nat) : Int) = a by omega]
  | n + 1, h => by
    rw [h (a + ((n + 1 : Nat) : Int)) (by omega) (by omega), show a + ((n + 1 : Nat) : Int) - 1 = a + (n : Int) by omega]
    exact same_on n fun t h1 h2 => h t h1 (by omega)
theorem pc_hi {s : Int → Bool} (f : Bool) {x : Int} : ∀ {a : Int} {l : List Int}, (a :: l).Pairwise (· < ·) → (∀ t, a < t → (∃ z ∈ l, t < z) → t ∉ l → s t = s (t - 1)) → a ≤ x → (∃ z ∈ l, x < z) → ((pcR s (a :: l)).map (pcI f x)).sum = if s x = f then 1 else 0
  | a, [], _, _, _, ⟨z, hz, _⟩ => by cases hz
  | a, b :: l, hp, hs, ha, hz => by
    have hab := (List.pairwise_cons.mp hp).1 b List.mem_cons_self
    have hp' := (List.pairwise_cons.mp hp).2
    have hb := (List.pairwise_cons.mp hp').1
    unfold pcR
    rw [List.map_cons, List.sum_cons]
    by_cases c : x < b
    · rw [pc_lo s f hp' (fun y hy => by
        rcases List.mem_cons.mp hy with rfl | hy
        · exact c
        · have := hb y hy; omega)]
      have e : s x = s a := by
        have := same_on (s := s) (a := a) (x - a).toNat fun t h1 h2 => hs t h1 ⟨b, List.mem_cons_self, by omega⟩ fun q => by
          rcases List.mem_cons.mp q with rfl | q
          · omega
          · have := hb t q; omega
        rwa [show a + ((x - a).toNat : Int) = x by omega] at this
      have i1 : ind a (a + (b - a) - 1) x = 1 := ind_one.mpr ⟨ha, by omega⟩
      unfold pcI
      simp only [i1, e]
      split <;> rfl
    · rw [pc_hi f hp' (fun t h1 ⟨z, h2, h3⟩ h4 => hs t (by omega) ⟨z, List.mem_cons_of_mem _ h2, h3⟩ fun q => by
        rcases List.mem_cons.mp q with rfl | q
        · omega
        · exact h4 q) (by omega) (by
        obtain ⟨z, h1, h2⟩ := hz
        rcases List.mem_cons.mp h1 with rfl | h1
        · omega
        · exact ⟨z, h1, h2⟩)]
      have i0 : ind a (a + (b - a) - 1) x = 0 := (ind_01 _ _ _).resolve_right fun z => by
        have := (ind_one.mp z).2
        omega
      unfold pcI
      simp only [i0]
      split <;> simp
end Lit

set_option Elab.async false
set_option linter.all false
set_option maxRecDepth 100000
set_option maxHeartbeats 4000000
namespace K20
open PySem PySem.Spec PyProof.Rows L2 PySem.W Ev
def top (i : Nat) : Stmt := PySem.Challenge.pw_litdigits_k20_dark_pictures_of_great_num.main.body.getD i (.Pass ⟨0, 0, 0, 0⟩)
abbrev s_is_integer : Stmt := top 7
abbrev s_is_from : Stmt := top 8
abbrev s_is_within : Stmt := top 9
abbrev s_check_tick : Stmt := top 10
abbrev s_check_number_from : Stmt := top 11
abbrev s_check_display : Stmt := top 16
abbrev s_check_camera : Stmt := top 18
abbrev s_wrapped : Stmt := top 20
abbrev s_common_stretches : Stmt := top 21
abbrev s_left_out : Stmt := top 22
abbrev s_seen_stretches : Stmt := top 23
abbrev s_clear_stretches : Stmt := top 24
abbrev s_first_multiple_within : Stmt := top 26
abbrev s_first_within : Stmt := top 27
abbrev s_sum_of_floors : Stmt := top 28
abbrev s_count_within : Stmt := top 29
abbrev s_dark_stretches : Stmt := top 30
abbrev s_first_dark : Stmt := top 31
abbrev s_first_clear : Stmt := top 32
abbrev s_count_dark : Stmt := top 33
abbrev s__law_tank : Stmt := top 35
abbrev s__law_tap : Stmt := top 36
abbrev s__law_panel : Stmt := top 37
abbrev s__law_lens : Stmt := top 38
abbrev s__law_lights : Stmt := top 39
abbrev s__law_seen : Stmt := top 40
abbrev s__law_quotients : Stmt := top 41
abbrev s__law_arc : Stmt := top 42
abbrev s__law_pieces : Stmt := top 43
abbrev s__law_more : Stmt := top 44
abbrev s__law_counted : Stmt := top 45
abbrev s__law_first_right : Stmt := top 46
abbrev s__law_right : Stmt := top 47
abbrev s_law : Stmt := top 48
def gvs : List (Str × PyData) := [("MOST_PLACES", .int 8), ("NOW", .str "now"), ("ROUND", .str "round")]
def f_is_integer : Fi := ⟨false, false, ["value"], []⟩
def n_is_integer : List Str := ["value"]
def f_is_from : Fi := ⟨false, false, ["value", "least"], []⟩
def n_is_from : List Str := ["value", "least"]
def f_is_within : Fi := ⟨false, false, ["value", "least", "greatest"], []⟩
def n_is_within : List Str := ["value", "least", "greatest"]
def f_check_tick : Fi := ⟨false, false, ["value"], []⟩
def n_check_tick : List Str := ["value"]
def f_check_number_from : Fi := ⟨false, false, ["value", "least"], []⟩
def n_check_number_from : List Str := ["value", "least"]
def f_check_display : Fi := ⟨false, false, ["value"], []⟩
def n_check_display : List Str := ["value", "places", "slot", "lit", "driver"]
def f_check_camera : Fi := ⟨false, false, ["value"], []⟩
def n_check_camera : List Str := ["value", "index", "item"]
def f_wrapped : Fi := ⟨false, false, ["least", "greatest", "modulus"], []⟩
def n_wrapped : List Str := ["least", "greatest", "modulus", "low", "high"]
def f_common_stretches : Fi := ⟨false, false, ["one", "other"], []⟩
def n_common_stretches : List Str := ["one", "other", "found", "least", "greatest", "low", "high"]
def f_left_out : Fi := ⟨false, false, ["stretches", "modulus"], []⟩
def n_left_out : List Str := ["stretches", "modulus", "found", "at", "least", "greatest"]
def f_seen_stretches : Fi := ⟨false, false, ["display", "camera", "place"], []⟩
def n_seen_stretches : List Str := ["display", "camera", "place", "cycle", "missing", "start", "places", "slot", "lit", "_", "exposure", "need", "rounds", "rest"]
def f_clear_stretches : Fi := ⟨false, false, ["display", "camera"], []⟩
def n_clear_stretches : List Str := ["display", "camera", "found", "place"]
def f_first_multiple_within : Fi := ⟨false, false, ["step", "modulus", "low", "high"], []⟩
def n_first_multiple_within : List Str := ["step", "modulus", "low", "high", "passed", "found", "earlier_step", "earlier_modulus", "earlier_low"]
def f_first_within : Fi := ⟨false, false, ["start", "step", "modulus", "stretches"], []⟩
def n_first_within : List Str := ["start", "step", "modulus", "stretches", "found", "least", "greatest", "low", "high", "index"]
def f_sum_of_floors : Fi := ⟨false, false, ["start", "step", "modulus", "many"], []⟩
def n_sum_of_floors : List Str := ["start", "step", "modulus", "many", "total"]
def f_count_within : Fi := ⟨false, false, ["start", "step", "modulus", "stretches", "many"], []⟩
def n_count_within : List Str := ["start", "step", "modulus", "stretches", "many", "total", "least", "greatest"]
def f_dark_stretches : Fi := ⟨false, false, ["display", "camera"], []⟩
def n_dark_stretches : List Str := ["display", "camera"]
def f_first_dark : Fi := ⟨false, false, ["display", "camera", "first", "period"], []⟩
def n_first_dark : List Str := ["display", "camera", "first", "period"]
def f_first_clear : Fi := ⟨false, false, ["display", "camera", "first", "period"], []⟩
def n_first_clear : List Str := ["display", "camera", "first", "period"]
def f_count_dark : Fi := ⟨false, false, ["display", "camera", "first", "period", "many"], []⟩
def n_count_dark : List Str := ["display", "camera", "first", "period", "many"]
def f__law_tank : Fi := ⟨false, true, ["script", "at"], []⟩
def n__law_tank : List Str := ["script", "at", "cell"]
def f__law_tap : Fi := ⟨true, false, ["tank", "wide"], []⟩
def n__law_tap : List Str := ["tank", "wide", "mixed", "drawn"]
def f__law_panel : Fi := ⟨true, false, ["tank", "top", "wide"], []⟩
def n__law_panel : List Str := ["tank", "top", "wide", "slot_here", "lit_here"]
def f__law_lens : Fi := ⟨true, false, ["tank", "panel"], []⟩
def n__law_lens : List Str := ["tank", "panel", "whole", "some", "wide", "lights", "near"]
def f__law_lights : Fi := ⟨false, false, ["panel", "spot", "start", "wide"], []⟩
def n__law_lights : List Str := ["panel", "spot", "start", "wide", "whole", "gap", "found", "left"]
def f__law_seen : Fi := ⟨false, false, ["panel", "lens", "start"], []⟩
def n__law_seen : List Str := ["panel", "lens", "start", "spot"]
def f__law_quotients : Fi := ⟨false, false, ["total", "grid", "unit", "shift"], []⟩
def n__law_quotients : List Str := ["total", "grid", "unit", "shift", "whole", "last"]
def f__law_arc : Fi := ⟨false, false, ["panel", "lens"], []⟩
def n__law_arc : List Str := ["panel", "lens", "whole", "left", "need_here"]
def f__law_pieces : Fi := ⟨false, false, ["panel", "lens"], []⟩
def n__law_pieces : List Str := ["panel", "lens", "whole", "cuts", "spot", "rows", "first", "count", "one", "two", "wide"]
def f__law_more : Fi := ⟨true, false, ["tank", "panel", "lens"], []⟩
def n__law_more : List Str := ["tank", "panel", "lens", "whole", "times"]
def f__law_counted : Fi := ⟨false, false, ["panel", "pieces", "start", "gap", "count", "is_clear_here"], []⟩
def n__law_counted : List Str := ["panel", "pieces", "start", "gap", "count", "is_clear_here", "whole", "total", "one", "wide", "is_seen_here"]
def f__law_first_right : Fi := ⟨false, false, ["panel", "pieces", "start", "gap", "told", "is_clear_here"], []⟩
def n__law_first_right : List Str := ["panel", "pieces", "start", "gap", "told", "is_clear_here", "whole", "counts", "more"]
def f__law_right : Fi := ⟨true, false, ["tank", "panel", "lens", "start", "gap"], []⟩
def n__law_right : List Str := ["tank", "panel", "lens", "start", "gap", "pieces", "count", "due"]
def f_law : Fi := ⟨false, false, ["script"], []⟩
def n_law : List Str := ["script", "at", "panel", "lens", "tank", "turn", "start", "gaps", "whole"]
def fns : List (Str × Fi) := [(("is_integer" : Str), f_is_integer), (("is_from" : Str), f_is_from), (("is_within" : Str), f_is_within), (("check_tick" : Str), f_check_tick), (("check_number_from" : Str), f_check_number_from), (("check_display" : Str), f_check_display), (("check_camera" : Str), f_check_camera), (("wrapped" : Str), f_wrapped), (("common_stretches" : Str), f_common_stretches), (("left_out" : Str), f_left_out), (("seen_stretches" : Str), f_seen_stretches), (("clear_stretches" : Str), f_clear_stretches), (("first_multiple_within" : Str), f_first_multiple_within), (("first_within" : Str), f_first_within), (("sum_of_floors" : Str), f_sum_of_floors), (("count_within" : Str), f_count_within), (("dark_stretches" : Str), f_dark_stretches), (("first_dark" : Str), f_first_dark), (("first_clear" : Str), f_first_clear), (("count_dark" : Str), f_count_dark), (("_law_tank" : Str), f__law_tank), (("_law_tap" : Str), f__law_tap), (("_law_panel" : Str), f__law_panel), (("_law_lens" : Str), f__law_lens), (("_law_lights" : Str), f__law_lights), (("_law_seen" : Str), f__law_seen), (("_law_quotients" : Str), f__law_quotients), (("_law_arc" : Str), f__law_arc), (("_law_pieces" : Str), f__law_pieces), (("_law_more" : Str), f__law_more), (("_law_counted" : Str), f__law_counted), (("_law_first_right" : Str), f__law_first_right), (("_law_right" : Str), f__law_right), (("law" : Str), f_law)]
def c_is_integer : List CS := [.ret (.and (.isi (.var 0) "int") (.not (.isi (.var 0) "bool")))]
def d_is_integer : De := ⟨n_is_integer, f_is_integer, c_is_integer⟩
def c_is_from : List CS := [.ret (.and (.isi (.var 0) "int") (.and (.not (.isi (.var 0) "bool")) (.cmp .GtE (.var 0) (.var 1))))]
def d_is_from : De := ⟨n_is_from, f_is_from, c_is_from⟩
def c_is_within : List CS := [.ret (.and (.isi (.var 0) "int") (.and (.not (.isi (.var 0) "bool")) (.chn .LtE .LtE (.var 1) (.var 0) (.var 2))))]
def d_is_within : De := ⟨n_is_within, f_is_within, c_is_within⟩
def c_check_tick : List CS := [.iff (.not (.call "is_integer" [0] [(.var 0)])) [.nev] []]
def d_check_tick : De := ⟨n_check_tick, f_check_tick, c_check_tick⟩
def c_check_number_from : List CS := [.iff (.not (.call "is_from" [0, 1] [(.var 0), (.var 1)])) [.nev] []]
def d_check_number_from : De := ⟨n_check_number_from, f_check_number_from, c_check_number_from⟩
def c_check_display : List CS := [.iff (.or (.not (.isi (.var 0) "tuple")) (.cmp .NotEq (.blt .len [(.var 0)]) (.cst (PyData.int 4)))) [.nev] [], .unp [1, 2, 3, 4] (.var 0), .iff (.not (.call "is_within" [0, 1, 2] [(.var 1), (.cst (PyData.int 1)), (.gcn "MOST_PLACES" (PyData.int 8))])) [.nev] [], .iff (.not (.call "is_from" [0, 1] [(.var 2), (.cst (PyData.int 1))])) [.nev] [], .iff (.not (.call "is_within" [0, 1, 2] [(.var 3), (.cst (PyData.int 1)), (.var 2)])) [.nev] [], .iff (.or (.not (.isi (.var 4) "str")) (.cmp .NotIn (.var 4) (.tup [(.gcn "NOW" (PyData.str "now")), (.gcn "ROUND" (PyData.str "round"))]))) [.nev] []]
def d_check_display : De := ⟨n_check_display, f_check_display, c_check_display⟩
def c_check_camera : List CS := [.iff (.or (.not (.isi (.var 0) "tuple")) (.cmp .NotEq (.blt .len [(.var 0)]) (.cst (PyData.int 2)))) [.nev] [], .fr 10 [(.var 0)] [1, 2] false [.iff (.not (.call "is_from" [0, 1] [(.var 2), (.cst (PyData.int 1))])) [.nev] []]]
def d_check_camera : De := ⟨n_check_camera, f_check_camera, c_check_camera⟩
def c_wrapped : List CS := [.iff (.cmp .GtE (.bin .Sub (.var 1) (.var 0)) (.bin .Sub (.var 2) (.cst (PyData.int 1)))) [.ret (.lst [(.tup [(.cst (PyData.int 0)), (.bin .Sub (.var 2) (.cst (PyData.int 1)))])])] [], .par [3, 4] [(false, (.bin .Mod (.var 0) (.var 2))), (false, (.bin .Mod (.var 1) (.var 2)))], .iff (.cmp .LtE (.var 3) (.var 4)) [.ret (.lst [(.tup [(.var 3), (.var 4)])])] [], .ret (.lst [(.tup [(.cst (PyData.int 0)), (.var 4)]), (.tup [(.var 3), (.bin .Sub (.var 2) (.cst (PyData.int 1)))])])]
def d_wrapped : De := ⟨n_wrapped, f_wrapped, c_wrapped⟩
def c_common_stretches : List CS := [.own 2 (.lst []), .fr 9 [(.var 0)] [3, 4] false [.fr 9 [(.var 1)] [5, 6] false [.iff (.and (.cmp .LtE (.var 3) (.var 6)) (.cmp .LtE (.var 5) (.var 4))) [.app 2 (.tup [(.blt .max [(.var 3), (.var 5)]), (.blt .min [(.var 4), (.var 6)])])] []]], .ret (.var 2)]
def d_common_stretches : De := ⟨n_common_stretches, f_common_stretches, c_common_stretches⟩
def c_left_out : List CS := [.own 2 (.lst []), .asg 3 (.cst (PyData.int 0)), .fr 9 [(.var 0)] [4, 5] false [.iff (.cmp .Lt (.var 3) (.var 4)) [.app 2 (.tup [(.var 3), (.bin .Sub (.var 4) (.cst (PyData.int 1)))])] [], .asg 3 (.bin .Add (.var 5) (.cst (PyData.int 1)))], .iff (.cmp .Lt (.var 3) (.var 1)) [.app 2 (.tup [(.var 3), (.bin .Sub (.var 1) (.cst (PyData.int 1)))])] [], .ret (.var 2)]
def d_left_out : De := ⟨n_left_out, f_left_out, c_left_out⟩
def c_seen_stretches : List CS := [.unp [6, 7, 8, 9] (.var 0), .unp [10, 11] (.var 1), .asg 3 (.bin .Mult (.var 6) (.var 7)), .unp [12, 13] (.blt .divmod [(.var 10), (.var 3)]), .asg 4 (.bin .Sub (.var 11) (.bin .Mult (.var 12) (.var 8))), .iff (.cmp .LtE (.var 4) (.blt .max [(.cst (PyData.int 0)), (.bin .Sub (.bin .Add (.var 13) (.var 8)) (.var 3))])) [.ret (.lst [(.tup [(.cst (PyData.int 0)), (.bin .Sub (.var 3) (.cst (PyData.int 1)))])])] [], .iff (.cmp .Gt (.var 4) (.blt .min [(.var 13), (.var 8)])) [.ret (.lst [])] [], .asg 5 (.bin .Mult (.var 2) (.var 7)), .ret (.call "wrapped" [0, 1, 2] [(.bin .Sub (.bin .Add (.var 5) (.var 4)) (.var 13)), (.bin .Sub (.bin .Add (.var 5) (.var 8)) (.var 4)), (.var 3)])]
def d_seen_stretches : De := ⟨n_seen_stretches, f_seen_stretches, c_seen_stretches⟩
def c_clear_stretches : List CS := [.asg 2 (.call "seen_stretches" [0, 1, 2] [(.var 0), (.var 1), (.cst (PyData.int 0))]), .fr 1 [(.cst (PyData.int 1)), (.idv 0 (.cst (PyData.int 0)))] [3] true [.asg 2 (.call "common_stretches" [0, 1] [(.var 2), (.call "seen_stretches" [0, 1, 2] [(.var 0), (.var 1), (.var 3)])])], .ret (.var 2)]
def d_clear_stretches : De := ⟨n_clear_stretches, f_clear_stretches, c_clear_stretches⟩
def c_first_multiple_within : List CS := [.own 4 (.lst []), .wh (.cmp .Gt (.var 2) (.cst (PyData.int 0))) [.asg 0 (.bin .Mod (.var 0) (.var 1)), .iff (.cmp .Eq (.var 0) (.cst (PyData.int 0))) [.ret (.cst PyData.none)] [], .iff (.cmp .GtE (.bin .Mult (.bin .FloorDiv (.var 3) (.var 0)) (.var 0)) (.var 2)) [.brk] [], .app 4 (.tup [(.var 0), (.var 1), (.var 2)]), .unp [0, 1, 2, 3] (.tup [(.var 1), (.var 0), (.bin .Mod (.neg (.var 3)) (.var 0)), (.bin .Mod (.neg (.var 2)) (.var 0))])], .asg 5 (.neg (.bin .FloorDiv (.neg (.var 2)) (.var 0))), .fr 12 [(.var 4)] [6, 7, 8] false [.asg 5 (.neg (.bin .FloorDiv (.neg (.bin .Add (.var 8) (.bin .Mult (.var 5) (.var 7)))) (.var 6)))], .ret (.var 5)]
def d_first_multiple_within : De := ⟨n_first_multiple_within, f_first_multiple_within, c_first_multiple_within⟩
def c_first_within : List CS := [.own 4 (.lst []), .fr 9 [(.var 3)] [5, 6] false [.asg 7 (.bin .Mod (.bin .Sub (.var 5) (.var 0)) (.var 2)), .asg 8 (.bin .Sub (.bin .Add (.var 7) (.var 6)) (.var 5)), .app 4 (.ite (.cmp .GtE (.var 8) (.var 2)) (.cst (PyData.int 0)) (.call "first_multiple_within" [0, 1, 2, 3] [(.var 1), (.var 2), (.var 7), (.var 8)]))], .ret (.mnd (.comp 9 [(.var 4)] [9] true [9] (some (.cmp .IsNot (.var 9) (.cst PyData.none))) (.var 9)) (.cst PyData.none))]
def d_first_within : De := ⟨n_first_within, f_first_within, c_first_within⟩
def c_sum_of_floors : List CS := [.asg 4 (.cst (PyData.int 0)), .wh (.cmp .Gt (.var 3) (.cst (PyData.int 0))) [.aug .Add 4 (.bin .Add (.bin .Mult (.bin .FloorDiv (.bin .Mult (.var 3) (.bin .Sub (.var 3) (.cst (PyData.int 1)))) (.cst (PyData.int 2))) (.bin .FloorDiv (.var 1) (.var 2))) (.bin .Mult (.var 3) (.bin .FloorDiv (.var 0) (.var 2)))), .par [1, 0] [(false, (.bin .Mod (.var 1) (.var 2))), (false, (.bin .Mod (.var 0) (.var 2)))], .unp [3, 0] (.blt .divmod [(.bin .Add (.var 0) (.bin .Mult (.var 1) (.var 3))), (.var 2)]), .par [1, 2] [(false, (.var 2)), (false, (.var 1))]], .ret (.var 4)]
def d_sum_of_floors : De := ⟨n_sum_of_floors, f_sum_of_floors, c_sum_of_floors⟩
def c_count_within : List CS := [.asg 5 (.cst (PyData.int 0)), .fr 9 [(.var 3)] [6, 7] false [.aug .Add 5 (.call "sum_of_floors" [0, 1, 2, 3] [(.bin .Sub (.var 0) (.var 6)), (.var 1), (.var 2), (.var 4)]), .aug .Sub 5 (.call "sum_of_floors" [0, 1, 2, 3] [(.bin .Sub (.bin .Sub (.var 0) (.var 7)) (.cst (PyData.int 1))), (.var 1), (.var 2), (.var 4)])], .ret (.var 5)]
def d_count_within : De := ⟨n_count_within, f_count_within, c_count_within⟩
def c_dark_stretches : List CS := [.ret (.call "left_out" [0, 1] [(.call "clear_stretches" [0, 1] [(.var 0), (.var 1)]), (.bin .Mult (.idv 0 (.cst (PyData.int 0))) (.idv 0 (.cst (PyData.int 1))))])]
def d_dark_stretches : De := ⟨n_dark_stretches, f_dark_stretches, c_dark_stretches⟩
def c_first_dark : List CS := [.exp (.call "check_display" [0] [(.var 0)]), .exp (.call "check_camera" [0] [(.var 1)]), .exp (.call "check_tick" [0] [(.var 2)]), .exp (.call "check_number_from" [0, 1] [(.var 3), (.cst (PyData.int 1))]), .ret (.call "first_within" [0, 1, 2, 3] [(.var 2), (.var 3), (.bin .Mult (.idv 0 (.cst (PyData.int 0))) (.idv 0 (.cst (PyData.int 1)))), (.call "dark_stretches" [0, 1] [(.var 0), (.var 1)])])]
def d_first_dark : De := ⟨n_first_dark, f_first_dark, c_first_dark⟩
def c_first_clear : List CS := [.exp (.call "check_display" [0] [(.var 0)]), .exp (.call "check_camera" [0] [(.var 1)]), .exp (.call "check_tick" [0] [(.var 2)]), .exp (.call "check_number_from" [0, 1] [(.var 3), (.cst (PyData.int 1))]), .ret (.call "first_within" [0, 1, 2, 3] [(.var 2), (.var 3), (.bin .Mult (.idv 0 (.cst (PyData.int 0))) (.idv 0 (.cst (PyData.int 1)))), (.call "clear_stretches" [0, 1] [(.var 0), (.var 1)])])]
def d_first_clear : De := ⟨n_first_clear, f_first_clear, c_first_clear⟩
def c_count_dark : List CS := [.exp (.call "check_display" [0] [(.var 0)]), .exp (.call "check_camera" [0] [(.var 1)]), .exp (.call "check_tick" [0] [(.var 2)]), .exp (.call "check_number_from" [0, 1] [(.var 3), (.cst (PyData.int 1))]), .exp (.call "check_number_from" [0, 1] [(.var 4), (.cst (PyData.int 0))]), .ret (.call "count_within" [0, 1, 2, 3, 4] [(.var 2), (.var 3), (.bin .Mult (.idv 0 (.cst (PyData.int 0))) (.idv 0 (.cst (PyData.int 1)))), (.call "dark_stretches" [0, 1] [(.var 0), (.var 1)]), (.var 4)])]
def d_count_dark : De := ⟨n_count_dark, f_count_dark, c_count_dark⟩
def c__law_tank : List CS := [.asg 2 (.ite (.cmp .Lt (.var 1) (.blt .len [(.var 0)])) (.idv 0 (.var 1)) (.cst (PyData.int 0))), .retO (.lst [(.blt .max [(.cst (PyData.int 0)), (.bin .Sub (.blt .abs [(.var 2)]) (.bin .Pow (.cst (PyData.int 10)) (.cst (PyData.int 18))))]), (.bin .Add (.bin .Mod (.blt .int [(.var 2)]) (.cst (PyData.int 1000000000000000003))) (.bin .Mult (.cst (PyData.int 104729)) (.bin .Add (.var 1) (.cst (PyData.int 1))))), (.cst (PyData.int 0))])]
def d__law_tank : De := ⟨n__law_tank, f__law_tank, c__law_tank⟩
def c__law_tap : List CS := [.iff (.cmp .Gt (.idv 0 (.cst (PyData.int 0))) (.cst (PyData.int 0))) [.asg 3 (.bin .Mod (.blt .int [(.idv 0 (.cst (PyData.int 0)))]) (.var 1)), .sub 0 (.cst (PyData.int 0)) (.bin .FloorDiv (.idv 0 (.cst (PyData.int 0))) (.var 1)), .ret (.var 3)] [], .sub 0 (.cst (PyData.int 2)) (.bin .Add (.idv 0 (.cst (PyData.int 2))) (.cst (PyData.int 1))), .asg 2 (.bin .Mod (.blt .int [(.bin .Pow (.bin .Add (.idv 0 (.cst (PyData.int 1))) (.bin .Mult (.cst (PyData.int 350377)) (.idv 0 (.cst (PyData.int 2))))) (.cst (PyData.int 3)))]) (.cst (PyData.int 170141183460469231731687303715884105727))), .asg 2 (.bin .Mod (.blt .int [(.bin .Pow (.bin .Add (.var 2) (.bin .Mult (.cst (PyData.int 27644437)) (.idv 0 (.cst (PyData.int 2))))) (.cst (PyData.int 3)))]) (.bin .Add (.bin .Pow (.cst (PyData.int 10)) (.cst (PyData.int 46))) (.cst (PyData.int 9)))), .ret (.bin .Mod (.blt .int [(.bin .FloorDiv (.var 2) (.cst (PyData.int 524288)))]) (.var 1))]
def d__law_tap : De := ⟨n__law_tap, f__law_tap, c__law_tap⟩
def c__law_panel : List CS := [.asg 3 (.bin .Add (.cst (PyData.int 1)) (.cio "_law_tap" 0 [(.var 2)])), .asg 4 (.idx (.lst [(.cst (PyData.int 1)), (.var 3), (.bin .Add (.cst (PyData.int 1)) (.cio "_law_tap" 0 [(.var 3)])), (.bin .Sub (.var 3) (.bin .FloorDiv (.var 3) (.cst (PyData.int 4))))]) (.cio "_law_tap" 0 [(.cst (PyData.int 4))])), .ret (.tup [(.bin .Add (.cst (PyData.int 1)) (.cio "_law_tap" 0 [(.var 1)])), (.var 3), (.var 4), (.idx (.lst [(.cst (PyData.str "now")), (.cst (PyData.str "round"))]) (.cio "_law_tap" 0 [(.cst (PyData.int 2))]))])]
def d__law_panel : De := ⟨n__law_panel, f__law_panel, c__law_panel⟩
def c__law_lens : List CS := [.asg 2 (.bin .Mult (.idv 1 (.cst (PyData.int 0))) (.idv 1 (.cst (PyData.int 1)))), .own 3 (.lst [(.var 2), (.bin .Add (.var 2) (.cst (PyData.int 1))), (.bin .Sub (.var 2) (.cst (PyData.int 1))), (.bin .Mult (.cst (PyData.int 2)) (.var 2)), (.bin .Add (.cst (PyData.int 1)) (.cio "_law_tap" 0 [(.var 2)])), (.bin .Add (.cst (PyData.int 1)) (.cio "_law_tap" 0 [(.bin .Mult (.cst (PyData.int 3)) (.var 2))]))]), .app 3 (.bin .Add (.bin .Add (.bin .Sub (.var 2) (.idv 1 (.cst (PyData.int 2)))) (.cst (PyData.int 1))) (.cio "_law_tap" 0 [(.idv 1 (.cst (PyData.int 2)))])), .asg 4 (.blt .max [(.cst (PyData.int 1)), (.idv 3 (.cio "_law_tap" 0 [(.cst (PyData.int 7))]))]), .asg 5 (.bin .Add (.bin .Mult (.bin .FloorDiv (.var 4) (.var 2)) (.idv 1 (.cst (PyData.int 2)))) (.blt .min [(.bin .Mod (.blt .int [(.var 4)]) (.var 2)), (.idv 1 (.cst (PyData.int 2)))])), .own 6 (.lst [(.cst (PyData.int 1)), (.var 5), (.bin .FloorDiv (.var 5) (.cst (PyData.int 2))), (.bin .Add (.bin .FloorDiv (.var 5) (.cst (PyData.int 2))) (.cst (PyData.int 1))), (.bin .Sub (.var 5) (.cst (PyData.int 1))), (.bin .Add (.cst (PyData.int 1)) (.cio "_law_tap" 0 [(.bin .Add (.var 5) (.cst (PyData.int 1)))])), (.bin .Add (.var 5) (.cst (PyData.int 1)))]), .ret (.tup [(.var 4), (.blt .max [(.cst (PyData.int 1)), (.idv 6 (.cio "_law_tap" 0 [(.cst (PyData.int 7))]))])])]
def d__law_lens : De := ⟨n__law_lens, f__law_lens, c__law_lens⟩
def c__law_lights : List CS := [.asg 4 (.bin .Mult (.idv 0 (.cst (PyData.int 0))) (.idv 0 (.cst (PyData.int 1)))), .par [6, 7] [(false, (.bin .Mult (.bin .FloorDiv (.var 3) (.var 4)) (.idv 0 (.cst (PyData.int 2))))), (false, (.bin .Mod (.blt .int [(.var 3)]) (.var 4)))], .asg 5 (.bin .Mod (.blt .int [(.bin .Sub (.var 2) (.bin .Mult (.var 1) (.idv 0 (.cst (PyData.int 1)))))]) (.var 4)), .asg 6 (.bin .Add (.var 6) (.blt .max [(.cst (PyData.int 0)), (.bin .Sub (.blt .min [(.idv 0 (.cst (PyData.int 2))), (.bin .Add (.var 5) (.var 7))]) (.var 5))])), .ret (.bin .Add (.var 6) (.blt .max [(.cst (PyData.int 0)), (.blt .min [(.idv 0 (.cst (PyData.int 2))), (.bin .Sub (.bin .Add (.var 5) (.var 7)) (.var 4))])]))]
def d__law_lights : De := ⟨n__law_lights, f__law_lights, c__law_lights⟩
def c__law_seen : List CS := [.ret (.comp 1 [(.idv 0 (.cst (PyData.int 0)))] [3] true [3] (some (.cmp .GtE (.call "_law_lights" [0, 1, 2, 3] [(.var 0), (.var 3), (.var 2), (.idv 1 (.cst (PyData.int 0)))]) (.idv 1 (.cst (PyData.int 1))))) (.var 3))]
def d__law_seen : De := ⟨n__law_seen, f__law_seen, c__law_seen⟩
def c__law_quotients : List CS := [.iff (.cmp .LtE (.var 0) (.cst (PyData.int 0))) [.ret (.cst (PyData.int 0))] [], .asg 4 (.bin .Add (.bin .Mult (.bin .FloorDiv (.bin .Mult (.var 0) (.bin .Sub (.var 0) (.cst (PyData.int 1)))) (.cst (PyData.int 2))) (.bin .FloorDiv (.var 2) (.var 1))) (.bin .Mult (.var 0) (.bin .FloorDiv (.var 3) (.var 1)))), .par [2, 3] [(false, (.bin .Mod (.blt .int [(.var 2)]) (.var 1))), (false, (.bin .Mod (.blt .int [(.var 3)]) (.var 1)))], .asg 5 (.bin .Add (.bin .Mult (.var 2) (.var 0)) (.var 3)), .iff (.cmp .Lt (.var 5) (.var 1)) [.ret (.var 4)] [], .ret (.bin .Add (.var 4) (.call "_law_quotients" [0, 1, 2, 3] [(.bin .FloorDiv (.var 5) (.var 1)), (.var 2), (.var 1), (.bin .Mod (.blt .int [(.var 5)]) (.var 1))]))]
def d__law_quotients : De := ⟨n__law_quotients, f__law_quotients, c__law_quotients⟩
def c__law_arc : List CS := [.asg 2 (.bin .Mult (.idv 0 (.cst (PyData.int 0))) (.idv 0 (.cst (PyData.int 1)))), .asg 3 (.bin .Mod (.blt .int [(.idv 1 (.cst (PyData.int 0)))]) (.var 2)), .asg 4 (.bin .Sub (.idv 1 (.cst (PyData.int 1))) (.bin .Mult (.bin .FloorDiv (.idv 1 (.cst (PyData.int 0))) (.var 2)) (.idv 0 (.cst (PyData.int 2))))), .iff (.cmp .LtE (.var 4) (.blt .max [(.cst (PyData.int 0)), (.bin .Add (.bin .Sub (.var 3) (.var 2)) (.idv 0 (.cst (PyData.int 2))))])) [.ret (.tup [(.cst (PyData.int 0)), (.var 2)])] [], .ret (.tup [(.bin .Sub (.var 4) (.var 3)), (.bin .Add (.bin .Sub (.bin .Add (.var 3) (.idv 0 (.cst (PyData.int 2)))) (.bin .Mult (.cst (PyData.int 2)) (.var 4))) (.cst (PyData.int 1)))])]
def d__law_arc : De := ⟨n__law_arc, f__law_arc, c__law_arc⟩
def c__law_pieces : List CS := [.asg 2 (.bin .Mult (.idv 0 (.cst (PyData.int 0))) (.idv 0 (.cst (PyData.int 1)))), .unp [6, 7] (.call "_law_arc" [0, 1] [(.var 0), (.var 1)]), .own 3 (.lst [(.cst (PyData.int 0))]), .fr 1 [(.idv 0 (.cst (PyData.int 0)))] [4] true [.own 3 (.bin .Add (.var 3) (.lst [(.bin .Mod (.blt .int [(.bin .Add (.var 6) (.bin .Mult (.var 4) (.idv 0 (.cst (PyData.int 1)))))]) (.var 2)), (.bin .Mod (.blt .int [(.bin .Add (.bin .Add (.var 6) (.var 7)) (.bin .Mult (.var 4) (.idv 0 (.cst (PyData.int 1)))))]) (.var 2))]))], .own 3 (.bin .Add (.srs (.var 3)) (.lst [(.var 2)])), .own 5 (.comp 3 [(.var 3), (.slc (.var 3) (some (.cst (PyData.int 1))) none)] [8, 9] false [8, 9] none (.tup [(.var 8), (.bin .Sub (.var 9) (.var 8))])), .ret (.comp 9 [(.var 5)] [8, 10] false [8, 10] none (.tup [(.var 8), (.var 10), (.cmp .Eq (.blt .len [(.call "_law_seen" [0, 1, 2] [(.var 0), (.var 1), (.var 8)])]) (.idv 0 (.cst (PyData.int 0))))]))]
def d__law_pieces : De := ⟨n__law_pieces, f__law_pieces, c__law_pieces⟩
def c__law_more : List CS := [.asg 3 (.bin .Mult (.idv 1 (.cst (PyData.int 0))) (.idv 1 (.cst (PyData.int 1)))), .asg 4 (.ite (.cmp .Eq (.cio "_law_tap" 0 [(.cst (PyData.int 3))]) (.cst (PyData.int 0))) (.cio "_law_tap" 0 [(.idx (.lst [(.cst (PyData.int 1)), (.cst (PyData.int 9)), (.bin .Add (.bin .FloorDiv (.bin .Pow (.cst (PyData.int 10)) (.cst (PyData.int 28))) (.var 3)) (.cst (PyData.int 1)))]) (.cio "_law_tap" 0 [(.cst (PyData.int 3))]))]) (.cst (PyData.int 0))), .ret (.tup [(.bin .Add (.idv 2 (.cst (PyData.int 0))) (.bin .Mult (.var 3) (.var 4))), (.bin .Add (.idv 2 (.cst (PyData.int 1))) (.bin .Mult (.idv 1 (.cst (PyData.int 2))) (.var 4)))])]
def d__law_more : De := ⟨n__law_more, f__law_more, c__law_more⟩
def c__law_counted : List CS := [.par [6, 7] [(false, (.bin .Mult (.idv 0 (.cst (PyData.int 0))) (.idv 0 (.cst (PyData.int 1))))), (false, (.cst (PyData.int 0)))], .fr 9 [(.var 1)] [8, 9, 10] false [.iff (.cmp .Eq (.var 10) (.var 5)) [.asg 7 (.bin .Add (.var 7) (.call "_law_quotients" [0, 1, 2, 3] [(.var 4), (.var 6), (.var 3), (.bin .Sub (.var 2) (.var 8))])), .asg 7 (.bin .Sub (.var 7) (.call "_law_quotients" [0, 1, 2, 3] [(.var 4), (.var 6), (.var 3), (.bin .Sub (.bin .Sub (.var 2) (.var 8)) (.var 9))]))] []], .ret (.var 7)]
def d__law_counted : De := ⟨n__law_counted, f__law_counted, c__law_counted⟩
def c__law_first_right : List CS := [.asg 6 (.bin .Mult (.idv 0 (.cst (PyData.int 0))) (.idv 0 (.cst (PyData.int 1)))), .iff (.cmp .Is (.var 4) (.cst PyData.none)) [.ret (.cmp .Eq (.call "_law_counted" [0, 1, 2, 3, 4, 5] [(.var 0), (.var 1), (.var 2), (.var 3), (.var 6), (.var 5)]) (.cst (PyData.int 0)))] [], .iff (.or (.not (.isi (.var 4) "int")) (.or (.isi (.var 4) "bool") (.cmp .Lt (.var 4) (.cst (PyData.int 0))))) [.ret (.cst (PyData.bool false))] [], .own 7 (.comp 9 [(.tup [(.cst (PyData.int 0)), (.cst (PyData.int 1))])] [8] true [8] none (.call "_law_counted" [0, 1, 2, 3, 4, 5] [(.var 0), (.var 1), (.var 2), (.var 3), (.bin .Add (.var 4) (.var 8)), (.var 5)])), .ret (.cmp .Eq (.var 7) (.lst [(.cst (PyData.int 0)), (.cst (PyData.int 1))]))]
def d__law_first_right : De := ⟨n__law_first_right, f__law_first_right, c__law_first_right⟩
def c__law_right : List CS := [.asg 5 (.call "_law_pieces" [0, 1] [(.var 1), (.var 2)]), .iff (.not (.call "_law_first_right" [0, 1, 2, 3, 4, 5] [(.var 1), (.var 5), (.var 3), (.var 4), (.call "first_dark" [0, 1, 2, 3] [(.var 1), (.var 2), (.var 3), (.var 4)]), (.cst (PyData.bool false))])) [.ret (.cst (PyData.bool false))] [], .iff (.not (.call "_law_first_right" [0, 1, 2, 3, 4, 5] [(.var 1), (.var 5), (.var 3), (.var 4), (.call "first_clear" [0, 1, 2, 3] [(.var 1), (.var 2), (.var 3), (.var 4)]), (.cst (PyData.bool true))])) [.ret (.cst (PyData.bool false))] [], .fr 9 [(.lst [(.cst (PyData.int 0)), (.bin .Pow (.cst (PyData.int 10)) (.cst (PyData.int 29))), (.cio "_law_tap" 0 [(.bin .Pow (.cst (PyData.int 10)) (.cst (PyData.int 29)))]), (.cio "_law_tap" 0 [(.cst (PyData.int 999))])])] [6] true [.asg 7 (.call "_law_counted" [0, 1, 2, 3, 4, 5] [(.var 1), (.var 5), (.var 3), (.var 4), (.var 6), (.cst (PyData.bool false))]), .iff (.cmp .NotEq (.blt .repr [(.call "count_dark" [0, 1, 2, 3, 4] [(.var 1), (.var 2), (.var 3), (.var 4), (.var 6)])]) (.rpo 7)) [.ret (.cst (PyData.bool false))] []], .ret (.cst (PyData.bool true))]
def d__law_right : De := ⟨n__law_right, f__law_right, c__law_right⟩
def c_law : List CS := [.fr 1 [(.blt .max [(.cst (PyData.int 1)), (.blt .min [(.cst (PyData.int 3)), (.blt .len [(.var 0)])])])] [1] true [.own 4 (.call "_law_tank" [0, 1] [(.var 0), (.var 1)]), .fr 1 [(.cst (PyData.int 5))] [5] true [.asg 2 (.cio "_law_panel" 4 [(.idx (.lst [(.cst (PyData.int 8)), (.cst (PyData.int 3)), (.cst (PyData.int 1)), (.cst (PyData.int 5)), (.cst (PyData.int 8))]) (.var 5)), (.idx (.lst [(.bin .Pow (.cst (PyData.int 10)) (.cst (PyData.int 27))), (.bin .Pow (.cst (PyData.int 10)) (.cst (PyData.int 6)))]) (.bin .Mod (.blt .int [(.var 5)]) (.cst (PyData.int 2))))]), .par [8, 3] [(false, (.bin .Mult (.idv 2 (.cst (PyData.int 0))) (.idv 2 (.cst (PyData.int 1))))), (false, (.cio "_law_more" 4 [(.var 2), (.cio "_law_lens" 4 [(.var 2)])]))], .asg 6 (.idx (.lst [(.cst (PyData.int 0)), (.bin .Sub (.cst (PyData.int 0)) (.cio "_law_tap" 4 [(.bin .Pow (.cst (PyData.int 10)) (.cst (PyData.int 29)))])), (.cio "_law_tap" 4 [(.bin .Pow (.cst (PyData.int 10)) (.cst (PyData.int 29)))])]) (.cio "_law_tap" 4 [(.cst (PyData.int 3))])), .own 7 (.lst [(.bin .Add (.var 8) (.cst (PyData.int 1))), (.idv 2 (.cst (PyData.int 1))), (.idv 2 (.cst (PyData.int 2))), (.bin .Add (.cst (PyData.int 1)) (.cio "_law_tap" 4 [(.bin .Pow (.cst (PyData.int 10)) (.cst (PyData.int 29)))])), (.bin .Add (.bin .FloorDiv (.var 8) (.cst (PyData.int 7))) (.cst (PyData.int 1))), (.bin .Sub (.var 8) (.cst (PyData.int 1))), (.var 8)]), .iff (.not (.cio "_law_right" 4 [(.var 2), (.var 3), (.var 6), (.blt .max [(.cst (PyData.int 1)), (.idv 7 (.cio "_law_tap" 4 [(.cst (PyData.int 7))]))])])) [.ret (.cst (PyData.bool false))] []]], .asg 2 (.tup [(.cst (PyData.int 2)), (.bin .Pow (.cst (PyData.int 10)) (.cst (PyData.int 28))), (.bin .Pow (.cst (PyData.int 10)) (.cst (PyData.int 28))), (.cst (PyData.str "now"))]), .asg 3 (.tup [(.bin .Sub (.bin .Mult (.cst (PyData.int 2)) (.bin .Pow (.cst (PyData.int 10)) (.cst (PyData.int 28)))) (.cst (PyData.int 1))), (.bin .Pow (.cst (PyData.int 10)) (.cst (PyData.int 28)))]), .ret (.and (.cmp .Eq (.call "first_dark" [0, 1, 2, 3] [(.var 2), (.var 3), (.cst (PyData.int 0)), (.cst (PyData.int 7))]) (.cst (PyData.int 0))) (.cmp .Is (.call "first_clear" [0, 1, 2, 3] [(.var 2), (.var 3), (.cst (PyData.int 5)), (.bin .Add (.bin .Pow (.cst (PyData.int 10)) (.cst (PyData.int 28))) (.cst (PyData.int 1)))]) (.cst PyData.none)))]
def d_law : De := ⟨n_law, f_law, c_law⟩
def tbl : List (Str × De) := [(("is_integer" : Str), d_is_integer), (("is_from" : Str), d_is_from), (("is_within" : Str), d_is_within), (("check_tick" : Str), d_check_tick), (("check_number_from" : Str), d_check_number_from), (("check_display" : Str), d_check_display), (("check_camera" : Str), d_check_camera), (("wrapped" : Str), d_wrapped), (("common_stretches" : Str), d_common_stretches), (("left_out" : Str), d_left_out), (("seen_stretches" : Str), d_seen_stretches), (("clear_stretches" : Str), d_clear_stretches), (("first_multiple_within" : Str), d_first_multiple_within), (("first_within" : Str), d_first_within), (("sum_of_floors" : Str), d_sum_of_floors), (("count_within" : Str), d_count_within), (("dark_stretches" : Str), d_dark_stretches), (("first_dark" : Str), d_first_dark), (("first_clear" : Str), d_first_clear), (("count_dark" : Str), d_count_dark), (("_law_tank" : Str), d__law_tank), (("_law_tap" : Str), d__law_tap), (("_law_panel" : Str), d__law_panel), (("_law_lens" : Str), d__law_lens), (("_law_lights" : Str), d__law_lights), (("_law_seen" : Str), d__law_seen), (("_law_quotients" : Str), d__law_quotients), (("_law_arc" : Str), d__law_arc), (("_law_pieces" : Str), d__law_pieces), (("_law_more" : Str), d__law_more), (("_law_counted" : Str), d__law_counted), (("_law_first_right" : Str), d__law_first_right), (("_law_right" : Str), d__law_right), (("law" : Str), d_law)]
def sts : List Stmt := [s_is_integer, s_is_from, s_is_within, s_check_tick, s_check_number_from, s_check_display, s_check_camera, s_wrapped, s_common_stretches, s_left_out, s_seen_stretches, s_clear_stretches, s_first_multiple_within, s_first_within, s_sum_of_floors, s_count_within, s_dark_stretches, s_first_dark, s_first_clear, s_count_dark, s__law_tank, s__law_tap, s__law_panel, s__law_lens, s__law_lights, s__law_seen, s__law_quotients, s__law_arc, s__law_pieces, s__law_more, s__law_counted, s__law_first_right, s__law_right, s_law]
theorem tx_is_integer : TxOk fns gvs "is_integer" d_is_integer s_is_integer := ⟨⟨rfl, rfl, rfl, by decide +kernel, rfl, by decide +kernel, by decide +kernel⟩, by kernel_rfl, fun _ _ _ _ _ _ us hl => match us, hl with | [_], _ => rfl, fun ks perm h => by
  unfold d_is_integer f_is_integer at h
  simp only [List.lookup_nil, reduceCtorEq] at h⟩
theorem tx_is_from : TxOk fns gvs "is_from" d_is_from s_is_from := ⟨⟨rfl, rfl, rfl, by decide +kernel, rfl, by decide +kernel, by decide +kernel⟩, by kernel_rfl, fun _ _ _ _ _ _ us hl => match us, hl with | [_, _], _ => rfl, fun ks perm h => by
  unfold d_is_from f_is_from at h
  simp only [List.lookup_nil, reduceCtorEq] at h⟩
theorem tx_is_within : TxOk fns gvs "is_within" d_is_within s_is_within := ⟨⟨rfl, rfl, rfl, by decide +kernel, rfl, by decide +kernel, by decide +kernel⟩, by kernel_rfl, fun _ _ _ _ _ _ us hl => match us, hl with | [_, _, _], _ => rfl, fun ks perm h => by
  unfold d_is_within f_is_within at h
  simp only [List.lookup_nil, reduceCtorEq] at h⟩
theorem tx_check_tick : TxOk fns gvs "check_tick" d_check_tick s_check_tick := ⟨⟨rfl, rfl, rfl, by decide +kernel, rfl, by decide +kernel, by decide +kernel⟩, by kernel_rfl, fun _ _ _ _ _ _ us hl => match us, hl with | [_], _ => rfl, fun ks perm h => by
  unfold d_check_tick f_check_tick at h
  simp only [List.lookup_nil, reduceCtorEq] at h⟩
theorem tx_check_number_from : TxOk fns gvs "check_number_from" d_check_number_from s_check_number_from := ⟨⟨rfl, rfl, rfl, by decide +kernel, rfl, by decide +kernel, by decide +kernel⟩, by kernel_rfl, fun _ _ _ _ _ _ us hl => match us, hl with | [_, _], _ => rfl, fun ks perm h => by
  unfold d_check_number_from f_check_number_from at h
  simp only [List.lookup_nil, reduceCtorEq] at h⟩
theorem tx_check_display : TxOk fns gvs "check_display" d_check_display s_check_display := ⟨⟨rfl, rfl, rfl, by decide +kernel, rfl, by decide +kernel, by decide +kernel⟩, by kernel_rfl, fun _ _ _ _ _ _ us hl => match us, hl with | [_], _ => rfl, fun ks perm h => by
  unfold d_check_display f_check_display at h
  simp only [List.lookup_nil, reduceCtorEq] at h⟩
theorem tx_check_camera : TxOk fns gvs "check_camera" d_check_camera s_check_camera := ⟨⟨rfl, rfl, rfl, by decide +kernel, rfl, by decide +kernel, by decide +kernel⟩, by kernel_rfl, fun _ _ _ _ _ _ us hl => match us, hl with | [_], _ => rfl, fun ks perm h => by
  unfold d_check_camera f_check_camera at h
  simp only [List.lookup_nil, reduceCtorEq] at h⟩
theorem tx_wrapped : TxOk fns gvs "wrapped" d_wrapped s_wrapped := ⟨⟨rfl, rfl, rfl, by decide +kernel, rfl, by decide +kernel, by decide +kernel⟩, by kernel_rfl, fun _ _ _ _ _ _ us hl => match us, hl with | [_, _, _], _ => rfl, fun ks perm h => by
  unfold d_wrapped f_wrapped at h
  simp only [List.lookup_nil, reduceCtorEq] at h⟩
theorem tx_common_stretches : TxOk fns gvs "common_stretches" d_common_stretches s_common_stretches := ⟨⟨rfl, rfl, rfl, by decide +kernel, rfl, by decide +kernel, by decide +kernel⟩, by kernel_rfl, fun _ _ _ _ _ _ us hl => match us, hl with | [_, _], _ => rfl, fun ks perm h => by
  unfold d_common_stretches f_common_stretches at h
  simp only [List.lookup_nil, reduceCtorEq] at h⟩
theorem tx_left_out : TxOk fns gvs "left_out" d_left_out s_left_out := ⟨⟨rfl, rfl, rfl, by decide +kernel, rfl, by decide +kernel, by decide +kernel⟩, by kernel_rfl, fun _ _ _ _ _ _ us hl => match us, hl with | [_, _], _ => rfl, fun ks perm h => by
  unfold d_left_out f_left_out at h
  simp only [List.lookup_nil, reduceCtorEq] at h⟩
theorem tx_seen_stretches : TxOk fns gvs "seen_stretches" d_seen_stretches s_seen_stretches := ⟨⟨rfl, rfl, rfl, by decide +kernel, rfl, by decide +kernel, by decide +kernel⟩, by kernel_rfl, fun _ _ _ _ _ _ us hl => match us, hl with | [_, _, _], _ => rfl, fun ks perm h => by
  unfold d_seen_stretches f_seen_stretches at h
  simp only [List.lookup_nil, reduceCtorEq] at h⟩
theorem tx_clear_stretches : TxOk fns gvs "clear_stretches" d_clear_stretches s_clear_stretches := ⟨⟨rfl, rfl, rfl, by decide +kernel, rfl, by decide +kernel, by decide +kernel⟩, by kernel_rfl, fun _ _ _ _ _ _ us hl => match us, hl with | [_, _], _ => rfl, fun ks perm h => by
  unfold d_clear_stretches f_clear_stretches at h
  simp only [List.lookup_nil, reduceCtorEq] at h⟩
theorem tx_first_multiple_within : TxOk fns gvs "first_multiple_within" d_first_multiple_within s_first_multiple_within := ⟨⟨rfl, rfl, rfl, by decide +kernel, rfl, by decide +kernel, by decide +kernel⟩, by kernel_rfl, fun _ _ _ _ _ _ us hl => match us, hl with | [_, _, _, _], _ => rfl, fun ks perm h => by
  unfold d_first_multiple_within f_first_multiple_within at h
  simp only [List.lookup_nil, reduceCtorEq] at h⟩
theorem tx_first_within : TxOk fns gvs "first_within" d_first_within s_first_within := ⟨⟨rfl, rfl, rfl, by decide +kernel, rfl, by decide +kernel, by decide +kernel⟩, by kernel_rfl, fun _ _ _ _ _ _ us hl => match us, hl with | [_, _, _, _], _ => rfl, fun ks perm h => by
  unfold d_first_within f_first_within at h
  simp only [List.lookup_nil, reduceCtorEq] at h⟩
theorem tx_sum_of_floors : TxOk fns gvs "sum_of_floors" d_sum_of_floors s_sum_of_floors := ⟨⟨rfl, rfl, rfl, by decide +kernel, rfl, by decide +kernel, by decide +kernel⟩, by kernel_rfl, fun _ _ _ _ _ _ us hl => match us, hl with | [_, _, _, _], _ => rfl, fun ks perm h => by
  unfold d_sum_of_floors f_sum_of_floors at h
  simp only [List.lookup_nil, reduceCtorEq] at h⟩
theorem tx_count_within : TxOk fns gvs "count_within" d_count_within s_count_within := ⟨⟨rfl, rfl, rfl, by decide +kernel, rfl, by decide +kernel, by decide +kernel⟩, by kernel_rfl, fun _ _ _ _ _ _ us hl => match us, hl with | [_, _, _, _, _], _ => rfl, fun ks perm h => by
  unfold d_count_within f_count_within at h
  simp only [List.lookup_nil, reduceCtorEq] at h⟩
theorem tx_dark_stretches : TxOk fns gvs "dark_stretches" d_dark_stretches s_dark_stretches := ⟨⟨rfl, rfl, rfl, by decide +kernel, rfl, by decide +kernel, by decide +kernel⟩, by kernel_rfl, fun _ _ _ _ _ _ us hl => match us, hl with | [_, _], _ => rfl, fun ks perm h => by
  unfold d_dark_stretches f_dark_stretches at h
  simp only [List.lookup_nil, reduceCtorEq] at h⟩
theorem tx_first_dark : TxOk fns gvs "first_dark" d_first_dark s_first_dark := ⟨⟨rfl, rfl, rfl, by decide +kernel, rfl, by decide +kernel, by decide +kernel⟩, by kernel_rfl, fun _ _ _ _ _ _ us hl => match us, hl with | [_, _, _, _], _ => rfl, fun ks perm h => by
  unfold d_first_dark f_first_dark at h
  simp only [List.lookup_nil, reduceCtorEq] at h⟩
theorem tx_first_clear : TxOk fns gvs "first_clear" d_first_clear s_first_clear := ⟨⟨rfl, rfl, rfl, by decide +kernel, rfl, by decide +kernel, by decide +kernel⟩, by kernel_rfl, fun _ _ _ _ _ _ us hl => match us, hl with | [_, _, _, _], _ => rfl, fun ks perm h => by
  unfold d_first_clear f_first_clear at h
  simp only [List.lookup_nil, reduceCtorEq] at h⟩
theorem tx_count_dark : TxOk fns gvs "count_dark" d_count_dark s_count_dark := ⟨⟨rfl, rfl, rfl, by decide +kernel, rfl, by decide +kernel, by decide +kernel⟩, by kernel_rfl, fun _ _ _ _ _ _ us hl => match us, hl with | [_, _, _, _, _], _ => rfl, fun ks perm h => by
  unfold d_count_dark f_count_dark at h
  simp only [List.lookup_nil, reduceCtorEq] at h⟩
theorem tx__law_tank : TxOk fns gvs "_law_tank" d__law_tank s__law_tank := ⟨⟨rfl, rfl, rfl, by decide +kernel, rfl, by decide +kernel, by decide +kernel⟩, by kernel_rfl, fun _ _ _ _ _ _ us hl => match us, hl with | [_, _], _ => rfl, fun ks perm h => by
  unfold d__law_tank f__law_tank at h
  simp only [List.lookup_nil, reduceCtorEq] at h⟩
theorem tx__law_tap : TxOk fns gvs "_law_tap" d__law_tap s__law_tap := ⟨⟨rfl, rfl, rfl, by decide +kernel, rfl, by decide +kernel, by decide +kernel⟩, by kernel_rfl, fun _ _ _ _ _ _ us hl => match us, hl with | [_, _], _ => rfl, fun ks perm h => by
  unfold d__law_tap f__law_tap at h
  simp only [List.lookup_nil, reduceCtorEq] at h⟩
theorem tx__law_panel : TxOk fns gvs "_law_panel" d__law_panel s__law_panel := ⟨⟨rfl, rfl, rfl, by decide +kernel, rfl, by decide +kernel, by decide +kernel⟩, by kernel_rfl, fun _ _ _ _ _ _ us hl => match us, hl with | [_, _, _], _ => rfl, fun ks perm h => by
  unfold d__law_panel f__law_panel at h
  simp only [List.lookup_nil, reduceCtorEq] at h⟩
theorem tx__law_lens : TxOk fns gvs "_law_lens" d__law_lens s__law_lens := ⟨⟨rfl, rfl, rfl, by decide +kernel, rfl, by decide +kernel, by decide +kernel⟩, by kernel_rfl, fun _ _ _ _ _ _ us hl => match us, hl with | [_, _], _ => rfl, fun ks perm h => by
  unfold d__law_lens f__law_lens at h
  simp only [List.lookup_nil, reduceCtorEq] at h⟩
theorem tx__law_lights : TxOk fns gvs "_law_lights" d__law_lights s__law_lights := ⟨⟨rfl, rfl, rfl, by decide +kernel, rfl, by decide +kernel, by decide +kernel⟩, by kernel_rfl, fun _ _ _ _ _ _ us hl => match us, hl with | [_, _, _, _], _ => rfl, fun ks perm h => by
  unfold d__law_lights f__law_lights at h
  simp only [List.lookup_nil, reduceCtorEq] at h⟩
theorem tx__law_seen : TxOk fns gvs "_law_seen" d__law_seen s__law_seen := ⟨⟨rfl, rfl, rfl, by decide +kernel, rfl, by decide +kernel, by decide +kernel⟩, by kernel_rfl, fun _ _ _ _ _ _ us hl => match us, hl with | [_, _, _], _ => rfl, fun ks perm h => by
  unfold d__law_seen f__law_seen at h
  simp only [List.lookup_nil, reduceCtorEq] at h⟩
theorem tx__law_quotients : TxOk fns gvs "_law_quotients" d__law_quotients s__law_quotients := ⟨⟨rfl, rfl, rfl, by decide +kernel, rfl, by decide +kernel, by decide +kernel⟩, by kernel_rfl, fun _ _ _ _ _ _ us hl => match us, hl with | [_, _, _, _], _ => rfl, fun ks perm h => by
  unfold d__law_quotients f__law_quotients at h
  simp only [List.lookup_nil, reduceCtorEq] at h⟩
theorem tx__law_arc : TxOk fns gvs "_law_arc" d__law_arc s__law_arc := ⟨⟨rfl, rfl, rfl, by decide +kernel, rfl, by decide +kernel, by decide +kernel⟩, by kernel_rfl, fun _ _ _ _ _ _ us hl => match us, hl with | [_, _], _ => rfl, fun ks perm h => by
  unfold d__law_arc f__law_arc at h
  simp only [List.lookup_nil, reduceCtorEq] at h⟩
theorem tx__law_pieces : TxOk fns gvs "_law_pieces" d__law_pieces s__law_pieces := ⟨⟨rfl, rfl, rfl, by decide +kernel, rfl, by decide +kernel, by decide +kernel⟩, by kernel_rfl, fun _ _ _ _ _ _ us hl => match us, hl with | [_, _], _ => rfl, fun ks perm h => by
  unfold d__law_pieces f__law_pieces at h
  simp only [List.lookup_nil, reduceCtorEq] at h⟩
theorem tx__law_more : TxOk fns gvs "_law_more" d__law_more s__law_more := ⟨⟨rfl, rfl, rfl, by decide +kernel, rfl, by decide +kernel, by decide +kernel⟩, by kernel_rfl, fun _ _ _ _ _ _ us hl => match us, hl with | [_, _, _], _ => rfl, fun ks perm h => by
  unfold d__law_more f__law_more at h
  simp only [List.lookup_nil, reduceCtorEq] at h⟩
theorem tx__law_counted : TxOk fns gvs "_law_counted" d__law_counted s__law_counted := ⟨⟨rfl, rfl, rfl, by decide +kernel, rfl, by decide +kernel, by decide +kernel⟩, by kernel_rfl, fun _ _ _ _ _ _ us hl => match us, hl with | [_, _, _, _, _, _], _ => rfl, fun ks perm h => by
  unfold d__law_counted f__law_counted at h
  simp only [List.lookup_nil, reduceCtorEq] at h⟩
theorem tx__law_first_right : TxOk fns gvs "_law_first_right" d__law_first_right s__law_first_right := ⟨⟨rfl, rfl, rfl, by decide +kernel, rfl, by decide +kernel, by decide +kernel⟩, by kernel_rfl, fun _ _ _ _ _ _ us hl => match us, hl with | [_, _, _, _, _, _], _ => rfl, fun ks perm h => by
  unfold d__law_first_right f__law_first_right at h
  simp only [List.lookup_nil, reduceCtorEq] at h⟩
theorem tx__law_right : TxOk fns gvs "_law_right" d__law_right s__law_right := ⟨⟨rfl, rfl, rfl, by decide +kernel, rfl, by decide +kernel, by decide +kernel⟩, by kernel_rfl, fun _ _ _ _ _ _ us hl => match us, hl with | [_, _, _, _, _], _ => rfl, fun ks perm h => by
  unfold d__law_right f__law_right at h
  simp only [List.lookup_nil, reduceCtorEq] at h⟩
theorem tx_law : TxOk fns gvs "law" d_law s_law := ⟨⟨rfl, rfl, rfl, by decide +kernel, rfl, by decide +kernel, by decide +kernel⟩, by kernel_rfl, fun _ _ _ _ _ _ us hl => match us, hl with | [_], _ => rfl, fun ks perm h => by
  unfold d_law f_law at h
  simp only [List.lookup_nil, reduceCtorEq] at h⟩
theorem tx : AllTx fns gvs tbl sts := ⟨tx_is_integer, tx_is_from, tx_is_within, tx_check_tick, tx_check_number_from, tx_check_display, tx_check_camera, tx_wrapped, tx_common_stretches, tx_left_out, tx_seen_stretches, tx_clear_stretches, tx_first_multiple_within, tx_first_within, tx_sum_of_floors, tx_count_within, tx_dark_stretches, tx_first_dark, tx_first_clear, tx_count_dark, tx__law_tank, tx__law_tap, tx__law_panel, tx__law_lens, tx__law_lights, tx__law_seen, tx__law_quotients, tx__law_arc, tx__law_pieces, tx__law_more, tx__law_counted, tx__law_first_right, tx__law_right, tx_law, trivial⟩
end K20

set_option Elab.async false
set_option linter.all false
set_option maxRecDepth 100000
set_option maxHeartbeats 4000000
namespace K20
set_option exponentiation.threshold 5000
open PySem PySem.Spec PyProof.Rows L2 PySem.W Ev
local macro_rules | `(tactic| walk_at "set") => `(tactic| (repeat (with_reducible refine' set_s ?_)); exact set_z)
local macro_rules | `(tactic| walk_at "bd") => `(tactic| first
  | assumption
  | exact Bd.lit (k := 400) (by decide +kernel)
  | ((with_reducible refine' Bd.add ?b1 ?b2); (case b1 => walk_at "bd"); (case b2 => walk_at "bd"))
  | ((with_reducible refine' Bd.sub ?b1 ?b2); (case b1 => walk_at "bd"); (case b2 => walk_at "bd"))
  | ((with_reducible refine' Bd.mul ?b1 ?b2); (case b1 => walk_at "bd"); (case b2 => walk_at "bd"))
  | ((with_reducible refine' Bd.neg ?b1); (case b1 => walk_at "bd"))
  | ((with_reducible refine' Bd.pow3 ?b1); (case b1 => walk_at "bd"))
  | ((with_reducible refine' Bd.pow2 ?b1); (case b1 => walk_at "bd"))
  | ((with_reducible refine' Bd.modP ?m1 ?m2); (case m1 => walk_at "bd"); (case m2 => first | decide | omega))
  | ((with_reducible refine' Bd.div ?m1 ?m2); (case m1 => walk_at "bd"); (case m2 => first | decide | omega)))
local macro_rules | `(tactic| walk_at "mul") => `(tactic| first
  | exact mulS1 (by decide) | exact mulS2 (by decide)
  | exact mulS1 (by assumption) | exact mulS2 (by assumption)
  | (refine' mulB ?m1 ?m2 ?m3 ?m4; (case m1 => walk_at "bd"); (case m2 => walk_at "bd"); (case m3 => decide); (case m4 => decide)))
local macro_rules | `(tactic| walk_at "big") => `(tactic| first
  | assumption
  | decide
  | (refine' Bd.big ?m1 ?m2; (case m1 => walk_at "bd"); (case m2 => decide)))
local macro_rules | `(tactic| walk_at "e") => `(tactic| first
  | ((with_reducible refine' we_var ?w1 ?_); (case w1 => exact rfl))
  | ((with_reducible refine' we_varO ?w1 ?w2 ?_); (case w1 => exact rfl); (case w2 => exact rfl))
  | with_reducible refine' we_cst ?_
  | with_reducible refine' we_gcn ?_
  | with_reducible refine' we_bin ?_
  | with_reducible refine' we_cmp ?_
  | ((with_reducible refine' we_idv ?w1 ?_); (case w1 => exact rfl))
  | ((with_reducible refine' we_idvO ?w1 ?_); (case w1 => exact rfl))
  | with_reducible refine' we_call ?_
  | ((with_reducible refine' we_cio ?w1 ?_); (case w1 => exact rfl))
  | with_reducible refine' we_blt ?_
  | with_reducible refine' we_nil ?_
  | with_reducible refine' we_cons ?_
  | ((with_reducible refine' wn_e ?w1 ?_); (case w1 => walk_at "set"))
  | ((with_reducible refine' wn_a ?w1 ?_); (case w1 => walk_at "set"))
  | ((with_reducible refine' wn_p ?w1 ?_); (case w1 => walk_at "set"))
  | ((with_reducible refine' wn_o ?w1 ?_); (case w1 => walk_at "set"))
  | with_reducible refine' we_tup ?_
  | with_reducible refine' we_lst ?_
  | with_reducible refine' we_idx ?_
  | with_reducible refine' we_not ?_
  | with_reducible refine' we_neg ?_
  | with_reducible refine' we_chn ?_
  | with_reducible refine' we_ite ?_
  | with_reducible refine' we_isi ?_
  | with_reducible refine' we_slc ?_
  | with_reducible refine' we_rev ?_
  | with_reducible refine' we_lr1 ?_
  | with_reducible refine' we_lr2 ?_
  | with_reducible refine' we_mnd ?_
  | with_reducible refine' we_gcd ?_
  | with_reducible refine' we_srs ?_
  | with_reducible refine' we_mth ?_
  | with_reducible refine' we_dct ?_
  | with_reducible refine' we_comp ?_
  | ((with_reducible refine' we_rpo ?w1 ?_); (case w1 => exact rfl))
  | with_reducible refine' evO_none ?_
  | with_reducible refine' evO_some ?_
  | with_reducible refine' wo_lst ?_
  | with_reducible refine' wo_comp ?_
  | with_reducible refine' wo_list ?_
  | with_reducible refine' wo_srt ?_
  | with_reducible refine' wo_ite ?_
  | with_reducible refine' wo_call ?_
  | ((with_reducible refine' wo_cio ?w1 ?_); (case w1 => exact rfl))
  | with_reducible refine' wp_nil ?_
  | with_reducible refine' wp_own ?_
  | with_reducible refine' wp_ev ?_)
local macro_rules | `(tactic| walk_at "x") => `(tactic| first
  | with_reducible refine' ex_add ?_
  | ((with_reducible refine' ex_cat ?w1 ?_); (case w1 => first | (simp only [List.length_append, List.length_cons, List.length_nil]; omega)))
  | with_reducible refine' ex_sub ?_
  | with_reducible refine' ex_augA ?_
  | with_reducible refine' ex_augS ?_
  | ((with_reducible refine' ex_mul ?w1 ?_); (case w1 => walk_at "mul"))
  | ((with_reducible refine' ex_mod ?w1 ?_); (case w1 => first | decide | omega))
  | ((with_reducible refine' ex_fdiv ?w1 ?w2 ?_); (case w1 => first | decide | omega); (case w2 => walk_at "big"))
  | with_reducible refine' xo_tru ?_
  | with_reducible refine' xo_bool ?_
  | with_reducible refine' xo_int ?_
  | ((with_reducible refine' xo_at ?w1 ?_); (case w1 => exact rfl))
  | ((with_reducible refine' xo_atL ?w1 ?_); (case w1 => exact rfl))
  | ((with_reducible refine' xo_ix ?w1 ?_); (case w1 => exact rfl))
  | ((with_reducible refine' xo_tg ?w1 ?_); (case w1 => exact rfl))
  | ((with_reducible refine' xo_pa ?w1 ?_); (case w1 => exact rfl))
  | ((with_reducible refine' xo_sub0 ?w1 ?w2 ?_); (case w1 => exact rfl); (case w2 => first | decide | omega))
  | ((with_reducible refine' xo_sub1 ?w1 ?w2 ?_); (case w1 => exact rfl); (case w2 => first | decide | omega))
  | ((with_reducible refine' xo_sub2 ?w1 ?w2 ?_); (case w1 => exact rfl); (case w2 => first | decide | omega))
  | ((with_reducible refine' xo_sub ?w1 ?w2 ?_); (case w1 => exact rfl); (case w2 => exact rfl))
  | ((with_reducible refine' xo_app ?w1 ?w2 ?_); (case w1 => exact rfl); (case w2 => first | decide | (simp only [List.length_append, List.length_cons, List.length_nil]; omega)))
  | with_reducible refine' xb_int ?_
  | with_reducible refine' xb_max ?_
  | with_reducible refine' xb_min ?_
  | with_reducible refine' xb_abs ?_
  | with_reducible refine' xb_len ?_
  | with_reducible refine' xb_lenT ?_
  | with_reducible refine' xn_neg ?_
  | ((with_reducible refine' xb_divmod ?w1 ?w2 ?_); (case w1 => first | decide | omega); (case w2 => walk_at "big"))
  | ((with_reducible refine' xl ?w1 ?_); (case w1 => first | (simp only [List.length_append, List.length_cons, List.length_nil]; omega)))
  | ((with_reducible refine' xl' ?w1 ?_); (case w1 => first | (simp only [List.length_append, List.length_cons, List.length_nil]; omega)))
  | with_reducible refine' x_rr ?_
  | with_reducible refine' xi_int ?_
  | with_reducible refine' xi_bool ?_
  | ((with_reducible refine' nt_pos ?_))
  | ((with_reducible refine' nt_neg ?_))
  | ((with_reducible refine' tf_pos ?_))
  | ((with_reducible refine' tf_neg ?_))
  | ((with_reducible refine' dec_pos ?w1 ?_); (case w1 => first | with_reducible rfl | assumption | omega))
  | ((with_reducible refine' dec_neg ?w1 ?_); (case w1 => first | with_reducible rfl | assumption | omega))
  | ((with_reducible refine' ndec_pos ?w1 ?_); (case w1 => first | with_reducible rfl | assumption | omega))
  | ((with_reducible refine' ndec_neg ?w1 ?_); (case w1 => first | with_reducible rfl | assumption | omega))
  | with_reducible refine' ex_lt ?_
  | with_reducible refine' ex_le ?_
  | with_reducible refine' ex_gt ?_
  | with_reducible refine' ex_ge ?_
  | with_reducible refine' ex_eq ?_
  | with_reducible refine' ex_ne ?_
  | with_reducible refine' ex_eqS ?_
  | with_reducible refine' ex_neS ?_
  | ((with_reducible refine' ex_reprI ?w1 ?_); (case w1 => first | (refine' Bd.up ?m1 ?m2); (case m1 => walk_at "bd"); (case m2 => decide)))
  | with_reducible refine' ex_reprB ?_
  | ((with_reducible refine' xq3 ?w1 ?_); (case w1 => walk_at "big"))
  | ((with_reducible refine' xq2 ?w1 ?_); (case w1 => walk_at "big"))
  | first | with_reducible refine' xt2 ?_ | with_reducible refine' xt3 ?_ | with_reducible refine' xt4 ?_ | with_reducible refine' xt5 ?_ | with_reducible refine' xt6 ?_ | with_reducible refine' xt7 ?_ | with_reducible refine' xt8 ?_ | with_reducible refine' xt9 ?_ | with_reducible refine' xt10 ?_ | with_reducible refine' xt12 ?_ | with_reducible refine' xt16 ?_ | with_reducible refine' xt17 ?_ | with_reducible refine' xt18 ?_ | with_reducible refine' xt19 ?_ | with_reducible refine' xt20 ?_ | with_reducible refine' xt21 ?_ | with_reducible refine' xt22 ?_ | with_reducible refine' xt23 ?_ | with_reducible refine' xt24 ?_ | with_reducible refine' xt25 ?_ | with_reducible refine' xt26 ?_ | with_reducible refine' xt27 ?_ | with_reducible refine' xt28 ?_ | with_reducible refine' xt29 ?_ | with_reducible refine' xt30 ?_ | with_reducible refine' xt38 ?_ | with_reducible refine' xt41 ?_ | with_reducible refine' xt44 ?_ | with_reducible refine' xt46 ?_ | with_reducible refine' xt50 ?_ | with_reducible refine' xt60 ?_
  | with_reducible refine' xp1 ?_ | with_reducible refine' xp2 ?_ | with_reducible refine' xp21 ?_ | with_reducible refine' xp3 ?_ | with_reducible refine' xp321 ?_
  | with_reducible refine' xp4 ?_ | with_reducible refine' xp4321 ?_ | with_reducible refine' xp5 ?_ | with_reducible refine' xp54321 ?_ | with_reducible refine' xp6 ?_ | with_reducible refine' xp0 ?_)
local macro_rules | `(tactic| walk_at "s") => `(tactic| first
  | ((with_reducible refine' wn_s ?w1 ?_); (case w1 => walk_at "set"))
  | ((with_reducible refine' ws_asg ?w1 ?_); (case w1 => exact rfl))
  | ((with_reducible refine' ws_own ?w1 ?_); (case w1 => exact rfl))
  | with_reducible refine' ws_par ?_
  | ((with_reducible refine' ws_aug ?w1 ?w2 ?_); (case w1 => exact rfl); (case w2 => exact rfl))
  | with_reducible refine' ws_unp ?_
  | ((with_reducible refine' ws_sub ?w1 ?_); (case w1 => exact rfl))
  | ((with_reducible refine' ws_app ?w1 ?_); (case w1 => exact rfl))
  | with_reducible refine' ws_exp ?_
  | with_reducible refine' ws_pas ?_
  | with_reducible refine' ws_iff ?_
  | with_reducible refine' ws_ret ?_
  | with_reducible refine' ws_retO ?_
  | with_reducible refine' ws_retN ?_
  | ((with_reducible refine' ws_retV ?w1 ?_); (case w1 => exact rfl))
  | ((with_reducible refine' ws_retVO ?w1 ?w2 ?_); (case w1 => exact rfl); (case w2 => exact rfl))
  | with_reducible refine' ws_nilq ?_
  | with_reducible refine' ws_nill ?_
  | with_reducible refine' ws_nil ?_)
local macro_rules | `(tactic| walk_at "w") => `(tactic| (repeat' (first | walk_at "e" | walk_at "s" | walk_at "x")))
local macro_rules | `(tactic| walk_at "pk") => `(tactic| (repeat' (first | exact fun _ hx => absurd hx (List.not_mem_nil) | refine List.forall_mem_cons.2 ⟨?_, ?_⟩)))
local macro_rules | `(tactic| walk_at "bdu") => `(tactic| (refine' Bd.up ?m1 ?m2; (case m1 => walk_at "bd"); (case m2 => decide)))
local macro_rules | `(tactic| walk_at "len") => `(tactic| (simp only [List.length_cons, List.length_nil]; omega))
theorem k_is_integer : Lk tbl "is_integer" 1 1 false Ev.c_is_integer := ⟨d_is_integer, by kernel_rfl, rfl, rfl, rfl, rfl⟩
theorem k_is_from : Lk tbl "is_from" 2 2 false Ev.c_is_from := ⟨d_is_from, by kernel_rfl, rfl, rfl, rfl, rfl⟩
theorem k_is_within : Lk tbl "is_within" 3 3 false Ev.c_is_within := ⟨d_is_within, by kernel_rfl, rfl, rfl, rfl, rfl⟩
theorem k_check_tick : Lk tbl "check_tick" 1 1 false Ev.c_check_tick := ⟨d_check_tick, by kernel_rfl, rfl, rfl, rfl, rfl⟩
theorem k_check_number_from : Lk tbl "check_number_from" 2 2 false Ev.c_check_number_from := ⟨d_check_number_from, by kernel_rfl, rfl, rfl, rfl, rfl⟩
theorem k_check_display : Lk tbl "check_display" 5 1 false Ev.c_check_display := ⟨d_check_display, by kernel_rfl, rfl, rfl, rfl, rfl⟩
theorem k_check_camera : Lk tbl "check_camera" 3 1 false Ev.c_check_camera := ⟨d_check_camera, by kernel_rfl, rfl, rfl, rfl, rfl⟩
theorem k_tap : Lk tbl "_law_tap" 4 2 true tapC := ⟨d__law_tap, by kernel_rfl, rfl, rfl, rfl, rfl⟩
theorem k_tank : Lk tbl "_law_tank" 3 2 false tankC := ⟨d__law_tank, by kernel_rfl, rfl, rfl, rfl, rfl⟩
theorem k_panel : Lk tbl "_law_panel" 5 3 true Ev.c_law_panel := ⟨d__law_panel, by kernel_rfl, rfl, rfl, rfl, rfl⟩
theorem k_lens : Lk tbl "_law_lens" 7 2 true Ev.c_law_lens := ⟨d__law_lens, by kernel_rfl, rfl, rfl, rfl, rfl⟩
theorem k_lights : Lk tbl "_law_lights" 8 4 false Ev.c_law_lights := ⟨d__law_lights, by kernel_rfl, rfl, rfl, rfl, rfl⟩
theorem k_more : Lk tbl "_law_more" 5 3 true c__law_more := ⟨d__law_more, by kernel_rfl, rfl, rfl, rfl, rfl⟩
theorem k_wrapped : Lk tbl "wrapped" 5 3 false Ev.c_wrapped := ⟨d_wrapped, by kernel_rfl, rfl, rfl, rfl, rfl⟩
theorem k_common : Lk tbl "common_stretches" 7 2 false Ev.c_common_stretches := ⟨d_common_stretches, by kernel_rfl, rfl, rfl, rfl, rfl⟩
theorem k_left : Lk tbl "left_out" 6 2 false Ev.c_left_out := ⟨d_left_out, by kernel_rfl, rfl, rfl, rfl, rfl⟩
theorem k_sst : Lk tbl "seen_stretches" 14 3 false Ev.c_seen_stretches := ⟨d_seen_stretches, by kernel_rfl, rfl, rfl, rfl, rfl⟩
theorem k_clear : Lk tbl "clear_stretches" 4 2 false Ev.c_clear_stretches := ⟨d_clear_stretches, by kernel_rfl, rfl, rfl, rfl, rfl⟩
theorem k_sof : Lk tbl "sum_of_floors" 5 4 false Ev.c_sum_of_floors := ⟨d_sum_of_floors, by kernel_rfl, rfl, rfl, rfl, rfl⟩
theorem k_cw : Lk tbl "count_within" 8 5 false Ev.c_count_within := ⟨d_count_within, by kernel_rfl, rfl, rfl, rfl, rfl⟩
theorem k_fmw : Lk tbl "first_multiple_within" 9 4 false Ev.c_first_multiple_within := ⟨d_first_multiple_within, by kernel_rfl, rfl, rfl, rfl, rfl⟩
theorem k_fw : Lk tbl "first_within" 10 4 false Ev.c_first_within := ⟨d_first_within, by kernel_rfl, rfl, rfl, rfl, rfl⟩
theorem k_darks : Lk tbl "dark_stretches" 2 2 false Ev.c_dark_stretches := ⟨d_dark_stretches, by kernel_rfl, rfl, rfl, rfl, rfl⟩
theorem k_fd : Lk tbl "first_dark" 4 4 false Ev.c_first_dark := ⟨d_first_dark, by kernel_rfl, rfl, rfl, rfl, rfl⟩
theorem k_fc : Lk tbl "first_clear" 4 4 false Ev.c_first_clear := ⟨d_first_clear, by kernel_rfl, rfl, rfl, rfl, rfl⟩
theorem k_cd : Lk tbl "count_dark" 5 5 false Ev.c_count_dark := ⟨d_count_dark, by kernel_rfl, rfl, rfl, rfl, rfl⟩
variable {n : Nat} {P S L : Int} {d : Str}
theorem chk_display (v : Val P S L d) : calN tbl (n + 3) "check_display" [dsp P S L d] = .ok .none none := by
  rw [lk_run k_check_display rfl]
  have e1 := is_within_val (n := n + 1) k_is_within P 1 8
  have e2 := is_from_val (n := n + 1) k_is_from S 1
  have e3 := is_within_val (n := n + 1) k_is_within L 1 S
  have h1 := v.p1
  have h2 := v.p8
  have h3 := v.s1
  have h4 := v.l1
  have h5 := v.l2
  have e4 := notin_drv v.dd
  have e5 := @len_dsp P S L d
  unfold dsp at e5 ⊢
  simp [Ev.c_check_display, evB, evS, evT, ev, evA, evO, evC, Rs.st, Rs.bind, ofO, SR.seq, set0, ofS, setTg, setMany, truR, truD, callR, permD, outR, oldR, nons, List.replicate, lim, isi_tt, isi_ss, e1, e2, e3, e4, e5, h1, h2, h3, h4, h5, c_ne, lim]
theorem chk_camera {E N : Int} (hE : 1 ≤ E) (hN : 1 ≤ N) : calN tbl (n + 3) "check_camera" [cam E N] = .ok .none none := by
  rw [lk_run k_check_camera rfl]
  have e1 := is_from_val (n := n + 1) k_is_from E 1
  have e2 := is_from_val (n := n + 1) k_is_from N 1
  rw [decide_eq_true hE] at e1
  rw [decide_eq_true hN] at e2
  unfold cam
  simp [Ev.c_check_camera, evB, evS, evT, ev, evA, evO, evC, Rs.st, Rs.bind, ofO, SR.seq, set0, ofS, setTg, setMany, truR, truD, callR, permD, outR, oldR, nons, List.replicate, lim, isi_tt, len_t2, c_ne, forL, it10t, e1, e2]
theorem fd_val (v : Val P S L d) {E N f g : Int} (E1 : 1 ≤ E) (N1 : 1 ≤ N) (g1 : 1 ≤ g) (bE : Bd 400 E) (bg : Bd 300 g) (bR : Bd 200 (P * S)) :
    ∃ o, calN tbl (n + 5) "first_dark" [dsp P S L d, cam E N, .int f, .int g] = .ok (oD o) none ∧ Lit.Fin f g (P * S) (dkL P S L E N) o := by
  have R0 := v.sR.2
  have bP := v.pb
  have bS := v.sb
  have e1 := chk_display (n := n + 1) v
  have e2 := chk_camera (n := n + 1) E1 N1
  have e3 := check_tick_val (n := n + 2) k_is_integer k_check_tick f
  have e4 := check_number_from_val (n := n + 2) k_is_from k_check_number_from g1
  have e5 := darks_all (n := n) k_wrapped k_sst k_common k_clear k_left k_darks v (N := N) (bE.up (by decide))
  obtain ⟨o, e6, fo⟩ := fw_val (n := n + 2) k_fmw k_fw (a := f) (dkL_good v E N) (by have := dkL_len v E N; omega) (by omega) g1 (bg.up (by decide)) (bR.up (by decide))
  refine ⟨o, ?_, fo⟩
  refine wc_run (P := fun z => z = _) k_fd rfl ?_
  show WS (evB (calN tbl (n + 4)) false Ev.c_first_dark [some (dsp P S L d, false), some (cam E N, false), some (.int f, false), some (.int g, false)]) _
  unfold Ev.c_first_dark
  walk_at "w"
  refine we_ret e1 ?_
  walk_at "w"
  refine we_ret e2 ?_
  walk_at "w"
  refine we_ret e3 ?_
  walk_at "w"
  refine we_ret e4 ?_
  walk_at "w"
  refine we_ret e5 ?_
  walk_at "w"
  refine we_ret e6 ?_
  walk_at "w"
  rfl
theorem fc_val (v : Val P S L d) {E N f g : Int} (E1 : 1 ≤ E) (N1 : 1 ≤ N) (g1 : 1 ≤ g) (bE : Bd 400 E) (bg : Bd 300 g) (bR : Bd 200 (P * S)) :
    ∃ o, calN tbl (n + 5) "first_clear" [dsp P S L d, cam E N, .int f, .int g] = .ok (oD o) none ∧ Lit.Fin f g (P * S) (clL P S L E N) o := by
  have R0 := v.sR.2
  have bP := v.pb
  have bS := v.sb
  have e1 := chk_display (n := n + 1) v
  have e2 := chk_camera (n := n + 1) E1 N1
  have e3 := check_tick_val (n := n + 2) k_is_integer k_check_tick f
  have e4 := check_number_from_val (n := n + 2) k_is_from k_check_number_from g1
  have e5 := clear_all (n := n + 1) k_wrapped k_sst k_common k_clear v (N := N) (bE.up (by decide))
  obtain ⟨o, e6, fo⟩ := fw_val (n := n + 2) k_fmw k_fw (a := f) (clL_good v E N) (by have := clL_len v E N; omega) (by omega) g1 (bg.up (by decide)) (bR.up (by decide))
  refine ⟨o, ?_, fo⟩
  refine wc_run (P := fun z => z = _) k_fc rfl ?_
  show WS (evB (calN tbl (n + 4)) false Ev.c_first_clear [some (dsp P S L d, false), some (cam E N, false), some (.int f, false), some (.int g, false)]) _
  unfold Ev.c_first_clear
  walk_at "w"
  refine we_ret e1 ?_
  walk_at "w"
  refine we_ret e2 ?_
  walk_at "w"
  refine we_ret e3 ?_
  walk_at "w"
  refine we_ret e4 ?_
  walk_at "w"
  refine we_ret e5 ?_
  walk_at "w"
  refine we_ret e6 ?_
  walk_at "w"
  rfl
theorem cd_val (v : Val P S L d) {E N f g : Int} {M : Nat} (E1 : 1 ≤ E) (N1 : 1 ≤ N) (g1 : 1 ≤ g) (bE : Bd 400 E) (bf : Bd 300 f) (bg : Bd 300 g) (bM : Bd 300 (M : Int)) (bR : Bd 200 (P * S)) :
    calN tbl (n + 5) "count_dark" [dsp P S L d, cam E N, .int f, .int g, .int (M : Nat)] = .ok (.int (tot f g (P * S) M (dkL P S L E N))) none := by
  have R0 := v.sR.2
  have bP := v.pb
  have bS := v.sb
  have e1 := chk_display (n := n + 1) v
  have e2 := chk_camera (n := n + 1) E1 N1
  have e3 := check_tick_val (n := n + 2) k_is_integer k_check_tick f
  have e4 := check_number_from_val (n := n + 2) k_is_from k_check_number_from g1
  have e4' := check_number_from_val (n := n + 2) k_is_from k_check_number_from (show (0 : Int) ≤ (M : Int) by omega)
  have e5 := darks_all (n := n) k_wrapped k_sst k_common k_clear k_left k_darks v (N := N) (bE.up (by decide))
  have e6 := cw_val (n := n + 2) k_sof k_cw (a := f) (b := g) (N := M) (dkL_good v E N) (by omega) (by omega) bf bg (bR.up (by decide)) bM
  refine wc_run (P := fun z => z = _) k_cd rfl ?_
  show WS (evB (calN tbl (n + 4)) false Ev.c_count_dark [some (dsp P S L d, false), some (cam E N, false), some (.int f, false), some (.int g, false), some (.int (M : Nat), false)]) _
  unfold Ev.c_count_dark
  walk_at "w"
  refine we_ret e1 ?_
  walk_at "w"
  refine we_ret e2 ?_
  walk_at "w"
  refine we_ret e3 ?_
  walk_at "w"
  refine we_ret e4 ?_
  walk_at "w"
  refine we_ret e4' ?_
  walk_at "w"
  refine we_ret e5 ?_
  walk_at "w"
  refine we_ret e6 ?_
  walk_at "w"
  rfl
end K20

set_option Elab.async false
set_option linter.all false
set_option maxRecDepth 100000
set_option maxHeartbeats 4000000
namespace K20
set_option exponentiation.threshold 5000
open PySem PySem.Spec PyProof.Rows L2 PySem.W Ev
local macro_rules | `(tactic| walk_at "set") => `(tactic| (repeat (with_reducible refine' set_s ?_)); exact set_z)
local macro_rules | `(tactic| walk_at "bd") => `(tactic| first
  | assumption
  | exact Bd.lit (k := 400) (by decide +kernel)
  | ((with_reducible refine' Bd.add ?b1 ?b2); (case b1 => walk_at "bd"); (case b2 => walk_at "bd"))
  | ((with_reducible refine' Bd.sub ?b1 ?b2); (case b1 => walk_at "bd"); (case b2 => walk_at "bd"))
  | ((with_reducible refine' Bd.mul ?b1 ?b2); (case b1 => walk_at "bd"); (case b2 => walk_at "bd"))
  | ((with_reducible refine' Bd.neg ?b1); (case b1 => walk_at "bd"))
  | ((with_reducible refine' Bd.pow3 ?b1); (case b1 => walk_at "bd"))
  | ((with_reducible refine' Bd.pow2 ?b1); (case b1 => walk_at "bd"))
  | ((with_reducible refine' Bd.modP ?m1 ?m2); (case m1 => walk_at "bd"); (case m2 => first | decide | omega))
  | ((with_reducible refine' Bd.div ?m1 ?m2); (case m1 => walk_at "bd"); (case m2 => first | decide | omega)))
local macro_rules | `(tactic| walk_at "mul") => `(tactic| first
  | exact mulS1 (by decide) | exact mulS2 (by decide)
  | exact mulS1 (by assumption) | exact mulS2 (by assumption)
  | (refine' mulB ?m1 ?m2 ?m3 ?m4; (case m1 => walk_at "bd"); (case m2 => walk_at "bd"); (case m3 => decide); (case m4 => decide)))
local macro_rules | `(tactic| walk_at "big") => `(tactic| first
  | assumption
  | decide
  | (refine' Bd.big ?m1 ?m2; (case m1 => walk_at "bd"); (case m2 => decide)))
local macro_rules | `(tactic| walk_at "e") => `(tactic| first
  | ((with_reducible refine' we_var ?w1 ?_); (case w1 => exact rfl))
  | ((with_reducible refine' we_varO ?w1 ?w2 ?_); (case w1 => exact rfl); (case w2 => exact rfl))
  | with_reducible refine' we_cst ?_
  | with_reducible refine' we_gcn ?_
  | with_reducible refine' we_bin ?_
  | with_reducible refine' we_cmp ?_
  | ((with_reducible refine' we_idv ?w1 ?_); (case w1 => exact rfl))
  | ((with_reducible refine' we_idvO ?w1 ?_); (case w1 => exact rfl))
  | with_reducible refine' we_call ?_
  | ((with_reducible refine' we_cio ?w1 ?_); (case w1 => exact rfl))
  | with_reducible refine' we_blt ?_
  | with_reducible refine' we_nil ?_
  | with_reducible refine' we_cons ?_
  | ((with_reducible refine' wn_e ?w1 ?_); (case w1 => walk_at "set"))
  | ((with_reducible refine' wn_a ?w1 ?_); (case w1 => walk_at "set"))
  | ((with_reducible refine' wn_p ?w1 ?_); (case w1 => walk_at "set"))
  | ((with_reducible refine' wn_o ?w1 ?_); (case w1 => walk_at "set"))
  | with_reducible refine' we_tup ?_
  | with_reducible refine' we_lst ?_
  | with_reducible refine' we_idx ?_
  | with_reducible refine' we_not ?_
  | with_reducible refine' we_neg ?_
  | with_reducible refine' we_chn ?_
  | with_reducible refine' we_ite ?_
  | with_reducible refine' we_isi ?_
  | with_reducible refine' we_slc ?_
  | with_reducible refine' we_rev ?_
  | with_reducible refine' we_lr1 ?_
  | with_reducible refine' we_lr2 ?_
  | with_reducible refine' we_mnd ?_
  | with_reducible refine' we_gcd ?_
  | with_reducible refine' we_srs ?_
  | with_reducible refine' we_mth ?_
  | with_reducible refine' we_dct ?_
  | with_reducible refine' we_comp ?_
  | ((with_reducible refine' we_rpo ?w1 ?_); (case w1 => exact rfl))
  | with_reducible refine' evO_none ?_
  | with_reducible refine' evO_some ?_
  | with_reducible refine' wo_lst ?_
  | with_reducible refine' wo_comp ?_
  | with_reducible refine' wo_list ?_
  | with_reducible refine' wo_srt ?_
  | with_reducible refine' wo_ite ?_
  | with_reducible refine' wo_call ?_
  | ((with_reducible refine' wo_cio ?w1 ?_); (case w1 => exact rfl))
  | with_reducible refine' wp_nil ?_
  | with_reducible refine' wp_own ?_
  | with_reducible refine' wp_ev ?_)
local macro_rules | `(tactic| walk_at "x") => `(tactic| first
  | with_reducible refine' ex_add ?_
  | ((with_reducible refine' ex_cat ?w1 ?_); (case w1 => first | (simp only [List.length_append, List.length_cons, List.length_nil]; omega)))
  | with_reducible refine' ex_sub ?_
  | with_reducible refine' ex_augA ?_
  | with_reducible refine' ex_augS ?_
  | ((with_reducible refine' ex_mul ?w1 ?_); (case w1 => walk_at "mul"))
  | ((with_reducible refine' ex_mod ?w1 ?_); (case w1 => first | decide | omega))
  | ((with_reducible refine' ex_fdiv ?w1 ?w2 ?_); (case w1 => first | decide | omega); (case w2 => walk_at "big"))
  | with_reducible refine' xo_tru ?_
  | with_reducible refine' xo_bool ?_
  | with_reducible refine' xo_int ?_
  | ((with_reducible refine' xo_at ?w1 ?_); (case w1 => exact rfl))
  | ((with_reducible refine' xo_atL ?w1 ?_); (case w1 => exact rfl))
  | ((with_reducible refine' xo_ix ?w1 ?_); (case w1 => exact rfl))
  | ((with_reducible refine' xo_tg ?w1 ?_); (case w1 => exact rfl))
  | ((with_reducible refine' xo_pa ?w1 ?_); (case w1 => exact rfl))
  | ((with_reducible refine' xo_sub0 ?w1 ?w2 ?_); (case w1 => exact rfl); (case w2 => first | decide | omega))
  | ((with_reducible refine' xo_sub1 ?w1 ?w2 ?_); (case w1 => exact rfl); (case w2 => first | decide | omega))
  | ((with_reducible refine' xo_sub2 ?w1 ?w2 ?_); (case w1 => exact rfl); (case w2 => first | decide | omega))
  | ((with_reducible refine' xo_sub ?w1 ?w2 ?_); (case w1 => exact rfl); (case w2 => exact rfl))
  | ((with_reducible refine' xo_app ?w1 ?w2 ?_); (case w1 => exact rfl); (case w2 => first | decide | (simp only [List.length_append, List.length_cons, List.length_nil]; omega)))
  | with_reducible refine' xb_int ?_
  | with_reducible refine' xb_max ?_
  | with_reducible refine' xb_min ?_
  | with_reducible refine' xb_abs ?_
  | with_reducible refine' xb_len ?_
  | with_reducible refine' xb_lenT ?_
  | with_reducible refine' xn_neg ?_
  | ((with_reducible refine' xb_divmod ?w1 ?w2 ?_); (case w1 => first | decide | omega); (case w2 => walk_at "big"))
  | ((with_reducible refine' xl ?w1 ?_); (case w1 => first | (simp only [List.length_append, List.length_cons, List.length_nil]; omega)))
  | ((with_reducible refine' xl' ?w1 ?_); (case w1 => first | (simp only [List.length_append, List.length_cons, List.length_nil]; omega)))
  | with_reducible refine' x_rr ?_
  | with_reducible refine' xi_int ?_
  | with_reducible refine' xi_bool ?_
  | ((with_reducible refine' nt_pos ?_))
  | ((with_reducible refine' nt_neg ?_))
  | ((with_reducible refine' tf_pos ?_))
  | ((with_reducible refine' tf_neg ?_))
  | ((with_reducible refine' dec_pos ?w1 ?_); (case w1 => first | with_reducible rfl | assumption | omega))
  | ((with_reducible refine' dec_neg ?w1 ?_); (case w1 => first | with_reducible rfl | assumption | omega))
  | ((with_reducible refine' ndec_pos ?w1 ?_); (case w1 => first | with_reducible rfl | assumption | omega))
  | ((with_reducible refine' ndec_neg ?w1 ?_); (case w1 => first | with_reducible rfl | assumption | omega))
  | with_reducible refine' ex_lt ?_
  | with_reducible refine' ex_le ?_
  | with_reducible refine' ex_gt ?_
  | with_reducible refine' ex_ge ?_
  | with_reducible refine' ex_eq ?_
  | with_reducible refine' ex_ne ?_
  | with_reducible refine' ex_eqS ?_
  | with_reducible refine' ex_neS ?_
  | ((with_reducible refine' ex_reprI ?w1 ?_); (case w1 => first | (refine' Bd.up ?m1 ?m2); (case m1 => walk_at "bd"); (case m2 => decide)))
  | with_reducible refine' ex_reprB ?_
  | ((with_reducible refine' xq3 ?w1 ?_); (case w1 => walk_at "big"))
  | ((with_reducible refine' xq2 ?w1 ?_); (case w1 => walk_at "big"))
  | first | with_reducible refine' xt2 ?_ | with_reducible refine' xt3 ?_ | with_reducible refine' xt4 ?_ | with_reducible refine' xt5 ?_ | with_reducible refine' xt6 ?_ | with_reducible refine' xt7 ?_ | with_reducible refine' xt8 ?_ | with_reducible refine' xt9 ?_ | with_reducible refine' xt10 ?_ | with_reducible refine' xt12 ?_ | with_reducible refine' xt16 ?_ | with_reducible refine' xt17 ?_ | with_reducible refine' xt18 ?_ | with_reducible refine' xt19 ?_ | with_reducible refine' xt20 ?_ | with_reducible refine' xt21 ?_ | with_reducible refine' xt22 ?_ | with_reducible refine' xt23 ?_ | with_reducible refine' xt24 ?_ | with_reducible refine' xt25 ?_ | with_reducible refine' xt26 ?_ | with_reducible refine' xt27 ?_ | with_reducible refine' xt28 ?_ | with_reducible refine' xt29 ?_ | with_reducible refine' xt30 ?_ | with_reducible refine' xt38 ?_ | with_reducible refine' xt41 ?_ | with_reducible refine' xt44 ?_ | with_reducible refine' xt46 ?_ | with_reducible refine' xt50 ?_ | with_reducible refine' xt60 ?_
  | with_reducible refine' xp1 ?_ | with_reducible refine' xp2 ?_ | with_reducible refine' xp21 ?_ | with_reducible refine' xp3 ?_ | with_reducible refine' xp321 ?_
  | with_reducible refine' xp4 ?_ | with_reducible refine' xp4321 ?_ | with_reducible refine' xp5 ?_ | with_reducible refine' xp54321 ?_ | with_reducible refine' xp6 ?_ | with_reducible refine' xp0 ?_)
local macro_rules | `(tactic| walk_at "s") => `(tactic| first
  | ((with_reducible refine' wn_s ?w1 ?_); (case w1 => walk_at "set"))
  | ((with_reducible refine' ws_asg ?w1 ?_); (case w1 => exact rfl))
  | ((with_reducible refine' ws_own ?w1 ?_); (case w1 => exact rfl))
  | with_reducible refine' ws_par ?_
  | ((with_reducible refine' ws_aug ?w1 ?w2 ?_); (case w1 => exact rfl); (case w2 => exact rfl))
  | with_reducible refine' ws_unp ?_
  | ((with_reducible refine' ws_sub ?w1 ?_); (case w1 => exact rfl))
  | ((with_reducible refine' ws_app ?w1 ?_); (case w1 => exact rfl))
  | with_reducible refine' ws_exp ?_
  | with_reducible refine' ws_pas ?_
  | with_reducible refine' ws_iff ?_
  | with_reducible refine' ws_ret ?_
  | with_reducible refine' ws_retO ?_
  | with_reducible refine' ws_retN ?_
  | ((with_reducible refine' ws_retV ?w1 ?_); (case w1 => exact rfl))
  | ((with_reducible refine' ws_retVO ?w1 ?w2 ?_); (case w1 => exact rfl); (case w2 => exact rfl))
  | with_reducible refine' ws_nilq ?_
  | with_reducible refine' ws_nill ?_
  | with_reducible refine' ws_nil ?_)
local macro_rules | `(tactic| walk_at "w") => `(tactic| (repeat' (first | walk_at "e" | walk_at "s" | walk_at "x")))
local macro_rules | `(tactic| walk_at "pk") => `(tactic| (repeat' (first | exact fun _ hx => absurd hx (List.not_mem_nil) | refine List.forall_mem_cons.2 ⟨?_, ?_⟩)))
local macro_rules | `(tactic| walk_at "bdu") => `(tactic| (refine' Bd.up ?m1 ?m2; (case m1 => walk_at "bd"); (case m2 => decide)))
local macro_rules | `(tactic| walk_at "len") => `(tactic| (simp only [List.length_cons, List.length_nil]; omega))
theorem k_quo : Lk tbl "_law_quotients" 6 4 false c__law_quotients := ⟨d__law_quotients, by kernel_rfl, rfl, rfl, rfl, rfl⟩
variable {n : Nat}
theorem quo_val : ∀ (K n : Nat) {a b m : Int} {N : Nat}, 1 ≤ m → 0 ≤ b → Bd 400 a → Bd 400 b → Bd 400 m → Bd 400 (N : Int) → m * (b % m) < 2 ^ K →
    calN tbl (n + K + 1) "_law_quotients" [.int (N : Nat), .int m, .int b, .int a] = .ok (.int (Lit.SF a b m N)) none := by
  intro K
  induction K with
  | zero =>
    intro n a b m N hm hb ba bb bm bN hk
    have a0 := Int.emod_nonneg a (show m ≠ 0 by omega)
    have a1 := Int.emod_lt_of_pos a (show 0 < m by omega)
    have b0 := Int.emod_nonneg b (show m ≠ 0 by omega)
    have z : b % m = 0 := by
      have h1 := Int.mul_le_mul_of_nonneg_right (show 1 ≤ m from hm) b0
      rw [Int.pow_zero] at hk
      omega
    have e := Lit.SF_red (show 0 < m by omega) a b N
    have z2 : Lit.SF (a % m) (b % m) m N = 0 := by
      unfold Lit.SF
      rw [Lit.sm_congr (g := fun _ => 0) fun i _ => by rw [z, Int.mul_zero, Int.add_zero, Int.ediv_eq_zero_of_lt a0 a1], Lit.sm_const, Int.mul_zero]
    refine wc_run (n := n + 0) (P := fun y => y = _) k_quo rfl ?_
    show WS (evB (calN tbl (n + 0)) false c__law_quotients [some (.int (N : Nat), false), some (.int m, false), some (.int b, false), some (.int a, false), none, none]) _
    unfold c__law_quotients
    walk_at "w"
    refine dec_both (fun c => ?_) (fun c => ?_)
    · obtain rfl : N = 0 := by omega
      walk_at "w"
      rfl
    · walk_at "w"
      rw [z, Int.zero_mul, Int.zero_add]
      walk_at "w"
      rw [e, z2, Int.add_zero]
      rfl
  | succ K ih =>
    intro n a b m N hm hb ba bb bm bN hk
    have a0 := Int.emod_nonneg a (show m ≠ 0 by omega)
    have a1 := Int.emod_lt_of_pos a (show 0 < m by omega)
    have b0 := Int.emod_nonneg b (show m ≠ 0 by omega)
    have b1 := Int.emod_lt_of_pos b (show 0 < m by omega)
    have ba' : Bd 400 (a % m) := bm.modP (by omega)
    have bb' : Bd 400 (b % m) := bm.modP (by omega)
    have e := Lit.SF_red (show 0 < m by omega) a b N
    have p0 : 0 ≤ b % m * (N : Int) := Int.mul_nonneg b0 (by omega)
    refine wc_run (n := n + (K + 1)) (P := fun y => y = _) k_quo rfl ?_
    show WS (evB (calN tbl (n + (K + 1))) false c__law_quotients [some (.int (N : Nat), false), some (.int m, false), some (.int b, false), some (.int a, false), none, none]) _
    unfold c__law_quotients
    walk_at "w"
    refine dec_both (fun c => ?_) (fun c => ?_)
    · obtain rfl : N = 0 := by omega
      walk_at "w"
      rfl
    · walk_at "w"
      refine dec_both (fun c2 => ?_) (fun c2 => ?_)
      · have z2 : Lit.SF (a % m) (b % m) m N = 0 := by
          unfold Lit.SF
          rw [Lit.sm_congr (g := fun _ => 0) fun i hi => by
            have h1 := Int.mul_le_mul_of_nonneg_right (show (i : Int) ≤ (N : Int) by omega) b0
            have h2 := Int.mul_nonneg (show (0 : Int) ≤ i by omega) b0
            rw [Int.mul_comm (N : Int)] at h1
            exact Int.ediv_eq_zero_of_lt (by omega) (by omega), Lit.sm_const, Int.mul_zero]
        walk_at "w"
        rw [e, z2, Int.add_zero]
        rfl
      · have b2 : 0 < b % m := by
          refine Int.lt_iff_le_and_ne.mpr ⟨b0, fun q => c2 ?_⟩
          rw [← q, Int.zero_mul, Int.zero_add]
          exact a1
        obtain ⟨K', hK, hk'⟩ := Lit.half b2 b1 hk
        obtain rfl : K = K' := by omega
        have q0 : 0 ≤ (a % m + b % m * (N : Int)) / m := Int.ediv_nonneg (by omega) (by omega)
        have q1 : (a % m + b % m * (N : Int)) / m ≤ (N : Int) := by
          have : (a % m + b % m * (N : Int)) / m < (N : Int) + 1 := Int.ediv_lt_of_lt_mul (by omega) (by
            have := Int.mul_le_mul_of_nonneg_right (show b % m ≤ m by omega) (show (0 : Int) ≤ N by omega)
            rw [Int.add_mul, Int.one_mul, Int.mul_comm (N : Int)]
            omega)
          omega
        obtain ⟨N1, hN1⟩ := Int.eq_ofNat_of_zero_le q0
        have bN1 : Bd 400 (N1 : Int) := bN.between (by omega) (by omega)
        have br : Bd 400 ((a % m + b % m * (N : Int)) % m) := bm.modP (by omega)
        have e1 := ih n (a := (a % m + b % m * (N : Int)) % m) (b := m) (m := b % m) (N := N1) (by omega) (by omega) br bm bb' bN1 hk'
        rw [Lit.SF_swap b2 b1 a0 a1, hN1, show ((N1 : Nat) : Int).toNat = N1 from rfl] at e
        walk_at "w"
        rw [Int.add_comm (b % m * (N : Int)), hN1]
        refine we_ret e1 ?_
        walk_at "w"
        rw [e]
        rfl
end K20

set_option Elab.async false
set_option linter.all false
set_option maxRecDepth 100000
set_option maxHeartbeats 4000000
namespace K20
set_option exponentiation.threshold 5000
open PySem PySem.Spec PyProof.Rows L2 PySem.W Ev
local macro_rules | `(tactic| walk_at "set") => `(tactic| (repeat (with_reducible refine' set_s ?_)); exact set_z)
local macro_rules | `(tactic| walk_at "bd") => `(tactic| first
  | assumption
  | exact Bd.lit (k := 400) (by decide +kernel)
  | ((with_reducible refine' Bd.add ?b1 ?b2); (case b1 => walk_at "bd"); (case b2 => walk_at "bd"))
  | ((with_reducible refine' Bd.sub ?b1 ?b2); (case b1 => walk_at "bd"); (case b2 => walk_at "bd"))
  | ((with_reducible refine' Bd.mul ?b1 ?b2); (case b1 => walk_at "bd"); (case b2 => walk_at "bd"))
  | ((with_reducible refine' Bd.neg ?b1); (case b1 => walk_at "bd"))
  | ((with_reducible refine' Bd.pow3 ?b1); (case b1 => walk_at "bd"))
  | ((with_reducible refine' Bd.pow2 ?b1); (case b1 => walk_at "bd"))
  | ((with_reducible refine' Bd.modP ?m1 ?m2); (case m1 => walk_at "bd"); (case m2 => first | decide | omega))
  | ((with_reducible refine' Bd.div ?m1 ?m2); (case m1 => walk_at "bd"); (case m2 => first | decide | omega)))
local macro_rules | `(tactic| walk_at "mul") => `(tactic| first
  | exact mulS1 (by decide) | exact mulS2 (by decide)
  | exact mulS1 (by assumption) | exact mulS2 (by assumption)
  | (refine' mulB ?m1 ?m2 ?m3 ?m4; (case m1 => walk_at "bd"); (case m2 => walk_at "bd"); (case m3 => decide); (case m4 => decide)))
local macro_rules | `(tactic| walk_at "big") => `(tactic| first
  | assumption
  | decide
  | (refine' Bd.big ?m1 ?m2; (case m1 => walk_at "bd"); (case m2 => decide)))
local macro_rules | `(tactic| walk_at "e") => `(tactic| first
  | ((with_reducible refine' we_var ?w1 ?_); (case w1 => exact rfl))
  | ((with_reducible refine' we_varO ?w1 ?w2 ?_); (case w1 => exact rfl); (case w2 => exact rfl))
  | with_reducible refine' we_cst ?_
  | with_reducible refine' we_gcn ?_
  | with_reducible refine' we_bin ?_
  | with_reducible refine' we_cmp ?_
  | ((with_reducible refine' we_idv ?w1 ?_); (case w1 => exact rfl))
  | ((with_reducible refine' we_idvO ?w1 ?_); (case w1 => exact rfl))
  | with_reducible refine' we_call ?_
  | ((with_reducible refine' we_cio ?w1 ?_); (case w1 => exact rfl))
  | with_reducible refine' we_blt ?_
  | with_reducible refine' we_nil ?_
  | with_reducible refine' we_cons ?_
  | ((with_reducible refine' wn_e ?w1 ?_); (case w1 => walk_at "set"))
  | ((with_reducible refine' wn_a ?w1 ?_); (case w1 => walk_at "set"))
  | ((with_reducible refine' wn_p ?w1 ?_); (case w1 => walk_at "set"))
  | ((with_reducible refine' wn_o ?w1 ?_); (case w1 => walk_at "set"))
  | with_reducible refine' we_tup ?_
  | with_reducible refine' we_lst ?_
  | with_reducible refine' we_idx ?_
  | with_reducible refine' we_not ?_
  | with_reducible refine' we_neg ?_
  | with_reducible refine' we_chn ?_
  | with_reducible refine' we_ite ?_
  | with_reducible refine' we_isi ?_
  | with_reducible refine' we_slc ?_
  | with_reducible refine' we_rev ?_
  | with_reducible refine' we_lr1 ?_
  | with_reducible refine' we_lr2 ?_
  | with_reducible refine' we_mnd ?_
  | with_reducible refine' we_gcd ?_
  | with_reducible refine' we_srs ?_
  | with_reducible refine' we_mth ?_
  | with_reducible refine' we_dct ?_
  | with_reducible refine' we_comp ?_
  | ((with_reducible refine' we_rpo ?w1 ?_); (case w1 => exact rfl))
  | with_reducible refine' evO_none ?_
  | with_reducible refine' evO_some ?_
  | with_reducible refine' wo_lst ?_
  | with_reducible refine' wo_comp ?_
  | with_reducible refine' wo_list ?_
  | with_reducible refine' wo_srt ?_
  | with_reducible refine' wo_ite ?_
  | with_reducible refine' wo_call ?_
  | ((with_reducible refine' wo_cio ?w1 ?_); (case w1 => exact rfl))
  | with_reducible refine' wp_nil ?_
  | with_reducible refine' wp_own ?_
  | with_reducible refine' wp_ev ?_)
local macro_rules | `(tactic| walk_at "x") => `(tactic| first
  | with_reducible refine' ex_add ?_
  | ((with_reducible refine' ex_cat ?w1 ?_); (case w1 => first | (simp only [List.length_append, List.length_cons, List.length_nil]; omega)))
  | with_reducible refine' ex_sub ?_
  | with_reducible refine' ex_augA ?_
  | with_reducible refine' ex_augS ?_
  | ((with_reducible refine' ex_mul ?w1 ?_); (case w1 => walk_at "mul"))
  | ((with_reducible refine' ex_mod ?w1 ?_); (case w1 => first | decide | omega))
  | ((with_reducible refine' ex_fdiv ?w1 ?w2 ?_); (case w1 => first | decide | omega); (case w2 => walk_at "big"))
  | with_reducible refine' xo_tru ?_
  | with_reducible refine' xo_bool ?_
  | with_reducible refine' xo_int ?_
  | ((with_reducible refine' xo_at ?w1 ?_); (case w1 => exact rfl))
  | ((with_reducible refine' xo_atL ?w1 ?_); (case w1 => exact rfl))
  | ((with_reducible refine' xo_ix ?w1 ?_); (case w1 => exact rfl))
  | ((with_reducible refine' xo_tg ?w1 ?_); (case w1 => exact rfl))
  | ((with_reducible refine' xo_pa ?w1 ?_); (case w1 => exact rfl))
  | ((with_reducible refine' xo_sub0 ?w1 ?w2 ?_); (case w1 => exact rfl); (case w2 => first | decide | omega))
  | ((with_reducible refine' xo_sub1 ?w1 ?w2 ?_); (case w1 => exact rfl); (case w2 => first | decide | omega))
  | ((with_reducible refine' xo_sub2 ?w1 ?w2 ?_); (case w1 => exact rfl); (case w2 => first | decide | omega))
  | ((with_reducible refine' xo_sub ?w1 ?w2 ?_); (case w1 => exact rfl); (case w2 => exact rfl))
  | ((with_reducible refine' xo_app ?w1 ?w2 ?_); (case w1 => exact rfl); (case w2 => first | decide | (simp only [List.length_append, List.length_cons, List.length_nil]; omega)))
  | with_reducible refine' xb_int ?_
  | with_reducible refine' xb_max ?_
  | with_reducible refine' xb_min ?_
  | with_reducible refine' xb_abs ?_
  | with_reducible refine' xb_len ?_
  | with_reducible refine' xb_lenT ?_
  | with_reducible refine' xn_neg ?_
  | ((with_reducible refine' xb_divmod ?w1 ?w2 ?_); (case w1 => first | decide | omega); (case w2 => walk_at "big"))
  | ((with_reducible refine' xl ?w1 ?_); (case w1 => first | (simp only [List.length_append, List.length_cons, List.length_nil]; omega)))
  | ((with_reducible refine' xl' ?w1 ?_); (case w1 => first | (simp only [List.length_append, List.length_cons, List.length_nil]; omega)))
  | with_reducible refine' x_rr ?_
  | with_reducible refine' xi_int ?_
  | with_reducible refine' xi_bool ?_
  | ((with_reducible refine' nt_pos ?_))
  | ((with_reducible refine' nt_neg ?_))
  | ((with_reducible refine' tf_pos ?_))
  | ((with_reducible refine' tf_neg ?_))
  | ((with_reducible refine' dec_pos ?w1 ?_); (case w1 => first | with_reducible rfl | assumption | omega))
  | ((with_reducible refine' dec_neg ?w1 ?_); (case w1 => first | with_reducible rfl | assumption | omega))
  | ((with_reducible refine' ndec_pos ?w1 ?_); (case w1 => first | with_reducible rfl | assumption | omega))
  | ((with_reducible refine' ndec_neg ?w1 ?_); (case w1 => first | with_reducible rfl | assumption | omega))
  | with_reducible refine' ex_lt ?_
  | with_reducible refine' ex_le ?_
  | with_reducible refine' ex_gt ?_
  | with_reducible refine' ex_ge ?_
  | with_reducible refine' ex_eq ?_
  | with_reducible refine' ex_ne ?_
  | with_reducible refine' ex_eqS ?_
  | with_reducible refine' ex_neS ?_
  | ((with_reducible refine' ex_reprI ?w1 ?_); (case w1 => first | (refine' Bd.up ?m1 ?m2); (case m1 => walk_at "bd"); (case m2 => decide)))
  | with_reducible refine' ex_reprB ?_
  | ((with_reducible refine' xq3 ?w1 ?_); (case w1 => walk_at "big"))
  | ((with_reducible refine' xq2 ?w1 ?_); (case w1 => walk_at "big"))
  | first | with_reducible refine' xt2 ?_ | with_reducible refine' xt3 ?_ | with_reducible refine' xt4 ?_ | with_reducible refine' xt5 ?_ | with_reducible refine' xt6 ?_ | with_reducible refine' xt7 ?_ | with_reducible refine' xt8 ?_ | with_reducible refine' xt9 ?_ | with_reducible refine' xt10 ?_ | with_reducible refine' xt12 ?_ | with_reducible refine' xt16 ?_ | with_reducible refine' xt17 ?_ | with_reducible refine' xt18 ?_ | with_reducible refine' xt19 ?_ | with_reducible refine' xt20 ?_ | with_reducible refine' xt21 ?_ | with_reducible refine' xt22 ?_ | with_reducible refine' xt23 ?_ | with_reducible refine' xt24 ?_ | with_reducible refine' xt25 ?_ | with_reducible refine' xt26 ?_ | with_reducible refine' xt27 ?_ | with_reducible refine' xt28 ?_ | with_reducible refine' xt29 ?_ | with_reducible refine' xt30 ?_ | with_reducible refine' xt38 ?_ | with_reducible refine' xt41 ?_ | with_reducible refine' xt44 ?_ | with_reducible refine' xt46 ?_ | with_reducible refine' xt50 ?_ | with_reducible refine' xt60 ?_
  | with_reducible refine' xp1 ?_ | with_reducible refine' xp2 ?_ | with_reducible refine' xp21 ?_ | with_reducible refine' xp3 ?_ | with_reducible refine' xp321 ?_
  | with_reducible refine' xp4 ?_ | with_reducible refine' xp4321 ?_ | with_reducible refine' xp5 ?_ | with_reducible refine' xp54321 ?_ | with_reducible refine' xp6 ?_ | with_reducible refine' xp0 ?_)
local macro_rules | `(tactic| walk_at "s") => `(tactic| first
  | ((with_reducible refine' wn_s ?w1 ?_); (case w1 => walk_at "set"))
  | ((with_reducible refine' ws_asg ?w1 ?_); (case w1 => exact rfl))
  | ((with_reducible refine' ws_own ?w1 ?_); (case w1 => exact rfl))
  | with_reducible refine' ws_par ?_
  | ((with_reducible refine' ws_aug ?w1 ?w2 ?_); (case w1 => exact rfl); (case w2 => exact rfl))
  | with_reducible refine' ws_unp ?_
  | ((with_reducible refine' ws_sub ?w1 ?_); (case w1 => exact rfl))
  | ((with_reducible refine' ws_app ?w1 ?_); (case w1 => exact rfl))
  | with_reducible refine' ws_exp ?_
  | with_reducible refine' ws_pas ?_
  | with_reducible refine' ws_iff ?_
  | with_reducible refine' ws_ret ?_
  | with_reducible refine' ws_retO ?_
  | with_reducible refine' ws_retN ?_
  | ((with_reducible refine' ws_retV ?w1 ?_); (case w1 => exact rfl))
  | ((with_reducible refine' ws_retVO ?w1 ?w2 ?_); (case w1 => exact rfl); (case w2 => exact rfl))
  | with_reducible refine' ws_nilq ?_
  | with_reducible refine' ws_nill ?_
  | with_reducible refine' ws_nil ?_)
local macro_rules | `(tactic| walk_at "w") => `(tactic| (repeat' (first | walk_at "e" | walk_at "s" | walk_at "x")))
local macro_rules | `(tactic| walk_at "pk") => `(tactic| (repeat' (first | exact fun _ hx => absurd hx (List.not_mem_nil) | refine List.forall_mem_cons.2 ⟨?_, ?_⟩)))
local macro_rules | `(tactic| walk_at "bdu") => `(tactic| (refine' Bd.up ?m1 ?m2; (case m1 => walk_at "bd"); (case m2 => decide)))
local macro_rules | `(tactic| walk_at "len") => `(tactic| (simp only [List.length_cons, List.length_nil]; omega))
theorem k_seen : Lk tbl "_law_seen" 4 3 false c__law_seen := ⟨d__law_seen, by kernel_rfl, rfl, rfl, rfl, rfl⟩
theorem k_arc : Lk tbl "_law_arc" 5 2 false c__law_arc := ⟨d__law_arc, by kernel_rfl, rfl, rfl, rfl, rfl⟩
theorem k_pieces : Lk tbl "_law_pieces" 11 2 false c__law_pieces := ⟨d__law_pieces, by kernel_rfl, rfl, rfl, rfl, rfl⟩
theorem k_counted : Lk tbl "_law_counted" 11 6 false c__law_counted := ⟨d__law_counted, by kernel_rfl, rfl, rfl, rfl, rfl⟩
variable {n : Nat} {P S L : Int} {d : Str}
/-- a place is seen in the picture begun at x -/
def sees (P S L E N x : Int) : D → Bool
  | .int j => decide (N ≤ ahd P S L j (x + E) - ahd P S L j x)
  | _ => false
theorem seen_val (v : Val P S L d) {E N x : Int} (bE : Bd 400 E) : calN tbl (n + 2) "_law_seen" [dsp P S L d, cam E N, .int x] = .ok (.list ((rngL 0 P).filter (sees P S L E N x))) none := by
  refine wc_run (P := fun z => z = _) k_seen rfl ?_
  show WS (evB (calN tbl (n + 1)) false c__law_seen [some (dsp P S L d, false), some (cam E N, false), some (.int x, false), none]) _
  unfold c__law_seen
  walk_at "w"
  refine wc_pure (sees P S L E N x) id ?_
  walk_at "w"
  refine ⟨_, rfl, rfl, by rw [rng_len']; have := v.p8; omega, rfl, fun y hy => ?_, ?_⟩
  · obtain ⟨j, rfl, h0, h1⟩ := rng_mem hy
    refine ⟨_, rfl, ?_, fun _ => ?_, rfl⟩
    · refine evC_some ?_
      walk_at "w"
      refine we_ret (lights_val (n := n) k_lights v h0 h1 (a := x) (bE.up (by decide))) ?_
      walk_at "w"
      exact ⟨rfl, rfl⟩
    · walk_at "w"
      exact ⟨rfl, rfl⟩
  · rw [List.map_id]
    rfl
/-- whether all places are seen -/
def allS (P S L E N x : Int) : Bool := Lit.inn (clL P S L E N) x
theorem all_key (v : Val P S L d) {E N x : Int} (x0 : 0 ≤ x) (x1 : x < P * S) : decide ((((rngL 0 P).filter (sees P S L E N x)).length : Int) = P) = allS P S L E N x := by
  have R0 := v.sR.2
  have l0 : 0 < L := by have := v.l1; omega
  have p1 := v.p1
  have ci := Lit.clr_inn l0 v.lR S E N x0 x1 (P - 1).toNat
  have hl : (rngL 0 P).length = P.toNat := by rw [rng_len']; simp
  have sh : ∀ j : Int, ahd P S L j (x + E) - ahd P S L j x = Lit.cnt (P * S) L (x - j * S + E) - Lit.cnt (P * S) L (x - j * S) := fun j => by
    unfold ahd
    rw [show x - j * S + E = x + E - j * S by omega]
  unfold allS clL
  cases q : Lit.inn (Lit.clr (P * S) L S E N (P - 1).toNat) x with
  | true =>
    have all := ci.mp q
    have : (rngL 0 P).filter (sees P S L E N x) = rngL 0 P := List.filter_eq_self.mpr fun y hy => by
      obtain ⟨j, rfl, h0, h1⟩ := rng_mem hy
      refine decide_eq_true ?_
      rw [sh j]
      exact all j h0 (by omega)
    rw [this, hl, decide_eq_true (by omega)]
  | false =>
    refine decide_eq_false ?_
    have : ((rngL 0 P).filter (sees P S L E N x)).length < (rngL 0 P).length := by
      refine Nat.lt_of_le_of_ne (List.length_filter_le _ _) fun z => ?_
      have al := List.length_filter_eq_length_iff.mp z
      have : Lit.inn (Lit.clr (P * S) L S E N (P - 1).toNat) x = true := ci.mpr fun j j0 j1 => by
        have hj : PyData.int j ∈ rngL 0 P := by
          unfold rngL
          exact List.mem_map.mpr ⟨j.toNat, List.mem_range.mpr (by omega), by show PyData.int (0 + (j.toNat : Int)) = _; rw [show (0 : Int) + (j.toNat : Int) = j by omega]⟩
        have := of_decide_eq_true (al _ hj)
        rw [sh j] at this
        exact this
      rw [this] at q
      cases q
    omega
theorem arc_val (v : Val P S L d) {E N : Int} (bE : Bd 400 E) : calN tbl (n + 1) "_law_arc" [dsp P S L d, cam E N] = .ok (.tuple [.int (Lit.arcF (P * S) L E N), .int (Lit.arcC (P * S) L E N)]) none := by
  have R0 := v.sR.2
  have bP := v.pb
  have bS := v.sb
  have bL := v.lb
  have bR := v.rb
  refine wc_run (P := fun z => z = _) k_arc rfl ?_
  show WS (evB (calN tbl n) false c__law_arc [some (dsp P S L d, false), some (cam E N, false), none, none, none]) _
  unfold c__law_arc
  have bq : Bd 400 (E / (P * S)) := bE.div (by omega)
  walk_at "w"
  refine dec_both (fun h => ?_) (fun h => ?_)
  · walk_at "w"
    unfold Lit.arcF Lit.arcC
    rw [if_pos h, if_pos h]
    rfl
  · walk_at "w"
    unfold Lit.arcF Lit.arcC
    rw [if_neg h, if_neg h]
    rfl
/-- the ends of the arcs of so many places -/
def cutsI (R S F C : Int) : Nat → List Int
  | 0 => [0]
  | k + 1 => cutsI R S F C k ++ [(F + (k : Int) * S) % R, (F + C + (k : Int) * S) % R]
theorem cuts_len (R S F C : Int) : ∀ k, (cutsI R S F C k).length = 1 + 2 * k
  | 0 => rfl
  | k + 1 => by
    unfold cutsI
    rw [List.length_append, cuts_len R S F C k]
    simp
    omega
theorem cuts_in {R S F C : Int} (hR : 0 < R) : ∀ k, ∀ x ∈ cutsI R S F C k, 0 ≤ x ∧ x < R
  | 0, x, hx => by
    rw [List.mem_singleton.mp hx]
    omega
  | k + 1, x, hx => by
    unfold cutsI at hx
    rcases List.mem_append.mp hx with hx | hx
    · exact cuts_in hR k x hx
    · simp only [List.mem_cons, List.not_mem_nil, or_false] at hx
      rcases hx with rfl | rfl <;> exact ⟨Int.emod_nonneg _ (by omega), Int.emod_lt_of_pos _ hR⟩
theorem cuts_zero (R S F C : Int) : ∀ k, (0 : Int) ∈ cutsI R S F C k
  | 0 => List.mem_singleton.mpr rfl
  | k + 1 => List.mem_append_left _ (cuts_zero R S F C k)
theorem cuts_at (R S F C : Int) {j : Nat} : ∀ {k : Nat}, j < k → (F + (j : Int) * S) % R ∈ cutsI R S F C k ∧ (F + C + (j : Int) * S) % R ∈ cutsI R S F C k
  | 0, h => by omega
  | k + 1, h => by
    unfold cutsI
    by_cases e : j = k
    · subst e
      exact ⟨List.mem_append_right _ (by simp), List.mem_append_right _ (by simp)⟩
    · obtain ⟨h1, h2⟩ := cuts_at R S F C (j := j) (k := k) (by omega)
      exact ⟨List.mem_append_left _ h1, List.mem_append_left _ h2⟩
/-- all cuts, ascending, and the round -/
def cutM (P S L E N : Int) : List Int := PySem.W.sortI (dedupI (cutsI (P * S) S (Lit.arcF (P * S) L E N) (Lit.arcC (P * S) L E N) P.toNat))
end K20

set_option Elab.async false
set_option linter.all false
set_option maxRecDepth 100000
set_option maxHeartbeats 4000000
namespace K20
set_option exponentiation.threshold 5000
open PySem PySem.Spec PyProof.Rows L2 PySem.W Ev
local macro_rules | `(tactic| walk_at "set") => `(tactic| (repeat (with_reducible refine' set_s ?_)); exact set_z)
local macro_rules | `(tactic| walk_at "bd") => `(tactic| first
  | assumption
  | exact Bd.lit (k := 400) (by decide +kernel)
  | ((with_reducible refine' Bd.add ?b1 ?b2); (case b1 => walk_at "bd"); (case b2 => walk_at "bd"))
  | ((with_reducible refine' Bd.sub ?b1 ?b2); (case b1 => walk_at "bd"); (case b2 => walk_at "bd"))
  | ((with_reducible refine' Bd.mul ?b1 ?b2); (case b1 => walk_at "bd"); (case b2 => walk_at "bd"))
  | ((with_reducible refine' Bd.neg ?b1); (case b1 => walk_at "bd"))
  | ((with_reducible refine' Bd.pow3 ?b1); (case b1 => walk_at "bd"))
  | ((with_reducible refine' Bd.pow2 ?b1); (case b1 => walk_at "bd"))
  | ((with_reducible refine' Bd.modP ?m1 ?m2); (case m1 => walk_at "bd"); (case m2 => first | decide | omega))
  | ((with_reducible refine' Bd.div ?m1 ?m2); (case m1 => walk_at "bd"); (case m2 => first | decide | omega)))
local macro_rules | `(tactic| walk_at "mul") => `(tactic| first
  | exact mulS1 (by decide) | exact mulS2 (by decide)
  | exact mulS1 (by assumption) | exact mulS2 (by assumption)
  | (refine' mulB ?m1 ?m2 ?m3 ?m4; (case m1 => walk_at "bd"); (case m2 => walk_at "bd"); (case m3 => decide); (case m4 => decide)))
local macro_rules | `(tactic| walk_at "big") => `(tactic| first
  | assumption
  | decide
  | (refine' Bd.big ?m1 ?m2; (case m1 => walk_at "bd"); (case m2 => decide)))
local macro_rules | `(tactic| walk_at "e") => `(tactic| first
  | ((with_reducible refine' we_var ?w1 ?_); (case w1 => exact rfl))
  | ((with_reducible refine' we_varO ?w1 ?w2 ?_); (case w1 => exact rfl); (case w2 => exact rfl))
  | with_reducible refine' we_cst ?_
  | with_reducible refine' we_gcn ?_
  | with_reducible refine' we_bin ?_
  | with_reducible refine' we_cmp ?_
  | ((with_reducible refine' we_idv ?w1 ?_); (case w1 => exact rfl))
  | ((with_reducible refine' we_idvO ?w1 ?_); (case w1 => exact rfl))
  | with_reducible refine' we_call ?_
  | ((with_reducible refine' we_cio ?w1 ?_); (case w1 => exact rfl))
  | with_reducible refine' we_blt ?_
  | with_reducible refine' we_nil ?_
  | with_reducible refine' we_cons ?_
  | ((with_reducible refine' wn_e ?w1 ?_); (case w1 => walk_at "set"))
  | ((with_reducible refine' wn_a ?w1 ?_); (case w1 => walk_at "set"))
  | ((with_reducible refine' wn_p ?w1 ?_); (case w1 => walk_at "set"))
  | ((with_reducible refine' wn_o ?w1 ?_); (case w1 => walk_at "set"))
  | with_reducible refine' we_tup ?_
  | with_reducible refine' we_lst ?_
  | with_reducible refine' we_idx ?_
  | with_reducible refine' we_not ?_
  | with_reducible refine' we_neg ?_
  | with_reducible refine' we_chn ?_
  | with_reducible refine' we_ite ?_
  | with_reducible refine' we_isi ?_
  | with_reducible refine' we_slc ?_
  | with_reducible refine' we_rev ?_
  | with_reducible refine' we_lr1 ?_
  | with_reducible refine' we_lr2 ?_
  | with_reducible refine' we_mnd ?_
  | with_reducible refine' we_gcd ?_
  | with_reducible refine' we_srs ?_
  | with_reducible refine' we_mth ?_
  | with_reducible refine' we_dct ?_
  | with_reducible refine' we_comp ?_
  | ((with_reducible refine' we_rpo ?w1 ?_); (case w1 => exact rfl))
  | with_reducible refine' evO_none ?_
  | with_reducible refine' evO_some ?_
  | with_reducible refine' wo_lst ?_
  | with_reducible refine' wo_comp ?_
  | with_reducible refine' wo_list ?_
  | with_reducible refine' wo_srt ?_
  | with_reducible refine' wo_ite ?_
  | with_reducible refine' wo_call ?_
  | ((with_reducible refine' wo_cio ?w1 ?_); (case w1 => exact rfl))
  | with_reducible refine' wp_nil ?_
  | with_reducible refine' wp_own ?_
  | with_reducible refine' wp_ev ?_)
local macro_rules | `(tactic| walk_at "x") => `(tactic| first
  | with_reducible refine' ex_add ?_
  | ((with_reducible refine' ex_cat ?w1 ?_); (case w1 => first | (simp only [List.length_append, List.length_cons, List.length_nil]; omega)))
  | with_reducible refine' ex_sub ?_
  | with_reducible refine' ex_augA ?_
  | with_reducible refine' ex_augS ?_
  | ((with_reducible refine' ex_mul ?w1 ?_); (case w1 => walk_at "mul"))
  | ((with_reducible refine' ex_mod ?w1 ?_); (case w1 => first | decide | omega))
  | ((with_reducible refine' ex_fdiv ?w1 ?w2 ?_); (case w1 => first | decide | omega); (case w2 => walk_at "big"))
  | with_reducible refine' xo_tru ?_
  | with_reducible refine' xo_bool ?_
  | with_reducible refine' xo_int ?_
  | ((with_reducible refine' xo_at ?w1 ?_); (case w1 => exact rfl))
  | ((with_reducible refine' xo_atL ?w1 ?_); (case w1 => exact rfl))
  | ((with_reducible refine' xo_ix ?w1 ?_); (case w1 => exact rfl))
  | ((with_reducible refine' xo_tg ?w1 ?_); (case w1 => exact rfl))
  | ((with_reducible refine' xo_pa ?w1 ?_); (case w1 => exact rfl))
  | ((with_reducible refine' xo_sub0 ?w1 ?w2 ?_); (case w1 => exact rfl); (case w2 => first | decide | omega))
  | ((with_reducible refine' xo_sub1 ?w1 ?w2 ?_); (case w1 => exact rfl); (case w2 => first | decide | omega))
  | ((with_reducible refine' xo_sub2 ?w1 ?w2 ?_); (case w1 => exact rfl); (case w2 => first | decide | omega))
  | ((with_reducible refine' xo_sub ?w1 ?w2 ?_); (case w1 => exact rfl); (case w2 => exact rfl))
  | ((with_reducible refine' xo_app ?w1 ?w2 ?_); (case w1 => exact rfl); (case w2 => first | decide | (simp only [List.length_append, List.length_cons, List.length_nil]; omega)))
  | with_reducible refine' xb_int ?_
  | with_reducible refine' xb_max ?_
  | with_reducible refine' xb_min ?_
  | with_reducible refine' xb_abs ?_
  | with_reducible refine' xb_len ?_
  | with_reducible refine' xb_lenT ?_
  | with_reducible refine' xn_neg ?_
  | ((with_reducible refine' xb_divmod ?w1 ?w2 ?_); (case w1 => first | decide | omega); (case w2 => walk_at "big"))
  | ((with_reducible refine' xl ?w1 ?_); (case w1 => first | (simp only [List.length_append, List.length_cons, List.length_nil]; omega)))
  | ((with_reducible refine' xl' ?w1 ?_); (case w1 => first | (simp only [List.length_append, List.length_cons, List.length_nil]; omega)))
  | with_reducible refine' x_rr ?_
  | with_reducible refine' xi_int ?_
  | with_reducible refine' xi_bool ?_
  | ((with_reducible refine' nt_pos ?_))
  | ((with_reducible refine' nt_neg ?_))
  | ((with_reducible refine' tf_pos ?_))
  | ((with_reducible refine' tf_neg ?_))
  | ((with_reducible refine' dec_pos ?w1 ?_); (case w1 => first | with_reducible rfl | assumption | omega))
  | ((with_reducible refine' dec_neg ?w1 ?_); (case w1 => first | with_reducible rfl | assumption | omega))
  | ((with_reducible refine' ndec_pos ?w1 ?_); (case w1 => first | with_reducible rfl | assumption | omega))
  | ((with_reducible refine' ndec_neg ?w1 ?_); (case w1 => first | with_reducible rfl | assumption | omega))
  | with_reducible refine' ex_lt ?_
  | with_reducible refine' ex_le ?_
  | with_reducible refine' ex_gt ?_
  | with_reducible refine' ex_ge ?_
  | with_reducible refine' ex_eq ?_
  | with_reducible refine' ex_ne ?_
  | with_reducible refine' ex_eqS ?_
  | with_reducible refine' ex_neS ?_
  | ((with_reducible refine' ex_reprI ?w1 ?_); (case w1 => first | (refine' Bd.up ?m1 ?m2); (case m1 => walk_at "bd"); (case m2 => decide)))
  | with_reducible refine' ex_reprB ?_
  | ((with_reducible refine' xq3 ?w1 ?_); (case w1 => walk_at "big"))
  | ((with_reducible refine' xq2 ?w1 ?_); (case w1 => walk_at "big"))
  | first | with_reducible refine' xt2 ?_ | with_reducible refine' xt3 ?_ | with_reducible refine' xt4 ?_ | with_reducible refine' xt5 ?_ | with_reducible refine' xt6 ?_ | with_reducible refine' xt7 ?_ | with_reducible refine' xt8 ?_ | with_reducible refine' xt9 ?_ | with_reducible refine' xt10 ?_ | with_reducible refine' xt12 ?_ | with_reducible refine' xt16 ?_ | with_reducible refine' xt17 ?_ | with_reducible refine' xt18 ?_ | with_reducible refine' xt19 ?_ | with_reducible refine' xt20 ?_ | with_reducible refine' xt21 ?_ | with_reducible refine' xt22 ?_ | with_reducible refine' xt23 ?_ | with_reducible refine' xt24 ?_ | with_reducible refine' xt25 ?_ | with_reducible refine' xt26 ?_ | with_reducible refine' xt27 ?_ | with_reducible refine' xt28 ?_ | with_reducible refine' xt29 ?_ | with_reducible refine' xt30 ?_ | with_reducible refine' xt38 ?_ | with_reducible refine' xt41 ?_ | with_reducible refine' xt44 ?_ | with_reducible refine' xt46 ?_ | with_reducible refine' xt50 ?_ | with_reducible refine' xt60 ?_
  | with_reducible refine' xp1 ?_ | with_reducible refine' xp2 ?_ | with_reducible refine' xp21 ?_ | with_reducible refine' xp3 ?_ | with_reducible refine' xp321 ?_
  | with_reducible refine' xp4 ?_ | with_reducible refine' xp4321 ?_ | with_reducible refine' xp5 ?_ | with_reducible refine' xp54321 ?_ | with_reducible refine' xp6 ?_ | with_reducible refine' xp0 ?_)
local macro_rules | `(tactic| walk_at "s") => `(tactic| first
  | ((with_reducible refine' wn_s ?w1 ?_); (case w1 => walk_at "set"))
  | ((with_reducible refine' ws_asg ?w1 ?_); (case w1 => exact rfl))
  | ((with_reducible refine' ws_own ?w1 ?_); (case w1 => exact rfl))
  | with_reducible refine' ws_par ?_
  | ((with_reducible refine' ws_aug ?w1 ?w2 ?_); (case w1 => exact rfl); (case w2 => exact rfl))
  | with_reducible refine' ws_unp ?_
  | ((with_reducible refine' ws_sub ?w1 ?_); (case w1 => exact rfl))
  | ((with_reducible refine' ws_app ?w1 ?_); (case w1 => exact rfl))
  | with_reducible refine' ws_exp ?_
  | with_reducible refine' ws_pas ?_
  | with_reducible refine' ws_iff ?_
  | with_reducible refine' ws_ret ?_
  | with_reducible refine' ws_retO ?_
  | with_reducible refine' ws_retN ?_
  | ((with_reducible refine' ws_retV ?w1 ?_); (case w1 => exact rfl))
  | ((with_reducible refine' ws_retVO ?w1 ?w2 ?_); (case w1 => exact rfl); (case w2 => exact rfl))
  | with_reducible refine' ws_nilq ?_
  | with_reducible refine' ws_nill ?_
  | with_reducible refine' ws_nil ?_)
local macro_rules | `(tactic| walk_at "w") => `(tactic| (repeat' (first | walk_at "e" | walk_at "s" | walk_at "x")))
local macro_rules | `(tactic| walk_at "pk") => `(tactic| (repeat' (first | exact fun _ hx => absurd hx (List.not_mem_nil) | refine List.forall_mem_cons.2 ⟨?_, ?_⟩)))
local macro_rules | `(tactic| walk_at "bdu") => `(tactic| (refine' Bd.up ?m1 ?m2; (case m1 => walk_at "bd"); (case m2 => decide)))
local macro_rules | `(tactic| walk_at "len") => `(tactic| (simp only [List.length_cons, List.length_nil]; omega))
variable {n : Nat} {P S L : Int} {d : Str}
theorem cutM_mem (P S L E N k : Int) : k ∈ cutM P S L E N ↔ k ∈ cutsI (P * S) S (Lit.arcF (P * S) L E N) (Lit.arcC (P * S) L E N) P.toNat := by
  unfold cutM
  rw [(PySem.W.sortI_perm _).mem_iff, dedupI_mem]
theorem cutM_lt (P S L E N : Int) : (cutM P S L E N).Pairwise (· < ·) := by
  have h1 := PySem.W.sortI_rises (dedupI (cutsI (P * S) S (Lit.arcF (P * S) L E N) (Lit.arcC (P * S) L E N) P.toNat))
  have h2 : (cutM P S L E N).Nodup := (PySem.W.sortI_perm _).nodup_iff.mpr (dedupI_nodup _)
  unfold cutM at *
  exact (h1.and h2).imp fun ⟨a, b⟩ => by omega
theorem cutM_len (v : Val P S L d) (E N : Int) : (cutM P S L E N).length ≤ 17 := by
  unfold cutM
  rw [(PySem.W.sortI_perm _).length_eq]
  have h : ∀ l : List Int, (dedupI l).length ≤ l.length := fun l => by
    induction l with
    | nil => exact Nat.le_refl _
    | cons x l ih =>
      unfold dedupI
      split
      · rw [List.length_cons]; omega
      · rw [List.length_cons, List.length_cons]; omega
  refine Nat.le_trans (h _) ?_
  rw [cuts_len]
  have := v.p8
  omega
/-- the ring's pieces -/
def pcsL (P S L E N : Int) : List (Int × Int × Bool) := Lit.pcR (allS P S L E N) (cutM P S L E N ++ [P * S])
theorem full_lt (v : Val P S L d) (E N : Int) : (cutM P S L E N ++ [P * S]).Pairwise (· < ·) := by
  refine List.pairwise_append.mpr ⟨cutM_lt .., List.pairwise_singleton _ _, fun x hx y hy => ?_⟩
  rw [List.mem_singleton.mp hy]
  exact (cuts_in v.sR.2 _ x ((cutM_mem ..).mp hx)).2
theorem full_in (v : Val P S L d) (E N : Int) : ∀ x ∈ cutM P S L E N ++ [P * S], 0 ≤ x ∧ x ≤ P * S := fun x hx => by
  have R0 := v.sR.2
  rcases List.mem_append.mp hx with hx | hx
  · have := cuts_in v.sR.2 _ x ((cutM_mem ..).mp hx)
    omega
  · rw [List.mem_singleton.mp hx]
    omega
theorem pcs_in (v : Val P S L d) (E N : Int) : ∀ q ∈ pcsL P S L E N, 0 ≤ q.1 ∧ 0 < q.2.1 ∧ q.1 + q.2.1 ≤ P * S := Lit.pcR_in _ (full_lt v E N) (full_in v E N)
theorem pcs_len (v : Val P S L d) (E N : Int) : (pcsL P S L E N).length ≤ 18 := by
  refine Nat.le_trans (Lit.pcR_len _ _) ?_
  rw [List.length_append, List.length_singleton]
  have := cutM_len v E N
  omega
/-- each begin stands in one piece, which tells of it -/
theorem pcs_sum (v : Val P S L d) (E N : Int) (f : Bool) {x : Int} (x0 : 0 ≤ x) (x1 : x < P * S) : ((pcsL P S L E N).map (Lit.pcI f x)).sum = if allS P S L E N x = f then 1 else 0 := by
  have R0 := v.sR.2
  have l0 : 0 < L := by have := v.l1; omega
  have hp := full_lt v E N
  have hin := full_in v E N
  have h0 : (0 : Int) ∈ cutM P S L E N := (cutM_mem ..).mpr (cuts_zero ..)
  have hall : ∀ t, t ∈ cutM P S L E N → t ∈ cutM P S L E N ++ [P * S] := fun t h => List.mem_append_left _ h
  unfold pcsL
  cases hl : cutM P S L E N ++ [P * S] with
  | nil => simp at hl
  | cons a l =>
    rw [hl] at hp hin hall
    have a0 : a = 0 := by
      have h1 := (hin a List.mem_cons_self).1
      rcases List.mem_cons.mp (hall 0 h0) with e | e
      · exact e.symm
      · have := (List.pairwise_cons.mp hp).1 0 e
        omega
    have hR : P * S ∈ l := by
      have : P * S ∈ a :: l := by rw [← hl]; exact List.mem_append_right _ (List.mem_singleton.mpr rfl)
      rcases List.mem_cons.mp this with e | e
      · omega
      · exact e
    refine Lit.pc_hi f hp (fun t t0 ⟨z, z1, z2⟩ tn => ?_) (by omega) ⟨_, hR, x1⟩
    refine Classical.byContradiction fun ne => tn ?_
    have t1 : t < P * S := by have := (hin z (List.mem_cons_of_mem _ z1)).2; omega
    obtain ⟨j, hj, e⟩ := Lit.clr_chg l0 v.lR S E N (by omega) t1 (P - 1).toNat ne
    have : t ∈ cutM P S L E N := (cutM_mem ..).mpr (by
      obtain ⟨h1, h2⟩ := cuts_at (P * S) S (Lit.arcF (P * S) L E N) (Lit.arcC (P * S) L E N) (j := j) (k := P.toNat) (by have := v.p1; omega)
      rcases e with e | e
      · rw [e]; exact h1
      · rw [e]; exact h2)
    rcases List.mem_cons.mp (hall t this) with e | e
    · omega
    · exact e
def rowD (q : Int × Int × Bool) : D := .tuple [.int q.1, .int q.2.1, .bool q.2.2]
def row2 (q : Int × Int × Bool) : D := .tuple [.int q.1, .int q.2.1]
def dif : D → D
  | .tuple [.int a, .int b] => .tuple [.int a, .int (b - a)]
  | _ => .none
theorem zip_pc (s : Int → Bool) : ∀ M : List Int, ((zipL (M.map .int) ((M.drop 1).map .int)).map dif) = (Lit.pcR s M).map row2
  | [] => rfl
  | [a] => rfl
  | a :: b :: l => by
    have ih := zip_pc s (b :: l)
    show dif (.tuple [.int a, .int b]) :: (zipL ((b :: l).map .int) (((b :: l).drop 1).map .int)).map dif = _
    rw [ih]
    rfl
theorem zip_mem : ∀ {l m : List Int} {x : D}, x ∈ zipL (l.map .int) (m.map .int) → ∃ a b, x = .tuple [.int a, .int b] ∧ a ∈ l ∧ b ∈ m
  | [], _, _, h => by cases h
  | _ :: _, [], _, h => by cases h
  | a :: l, b :: m, x, h => by
    rcases List.mem_cons.mp (show x ∈ PyData.tuple [.int a, .int b] :: zipL (l.map .int) (m.map .int) from h) with rfl | h
    · exact ⟨a, b, rfl, List.mem_cons_self, List.mem_cons_self⟩
    · obtain ⟨a', b', h1, h2, h3⟩ := zip_mem h
      exact ⟨a', b', h1, List.mem_cons_of_mem _ h2, List.mem_cons_of_mem _ h3⟩
theorem zip_len : ∀ l m : List D, (zipL l m).length ≤ l.length
  | [], _ => Nat.zero_le _
  | _ :: _, [] => Nat.zero_le _
  | a :: l, b :: m => by
    show (zipL l m).length + 1 ≤ l.length + 1
    have := zip_len l m
    omega
theorem cut_one (xs : List D) : Ev.cutD xs (some 1) none = xs.drop 1 := by
  unfold Ev.cutD
  have e : HT.sIx xs.length 0 (some 1) = min 1 xs.length := HT.sIx_nat xs.length 0 1
  rw [e, HT.sIx_none]
  cases xs with
  | nil => rfl
  | cons x xs =>
    rw [show min 1 (x :: xs).length = 1 by rw [List.length_cons]; omega, List.drop_succ_cons, List.drop_zero, List.length_cons]
    exact List.take_of_length_le (by omega)
theorem pieces_val (v : Val P S L d) {E N : Int} (bE : Bd 400 E) : calN tbl (n + 3) "_law_pieces" [dsp P S L d, cam E N] = .ok (.list ((pcsL P S L E N).map rowD)) none := by
  have R0 := v.sR.2
  have bP := v.pb
  have bS := v.sb
  have p8 := v.p8
  have p1 := v.p1
  have e1 := arc_val (n := n + 1) v (N := N) bE
  refine wc_run (P := fun z => z = _) k_pieces rfl ?_
  show WS (evB (calN tbl (n + 2)) false c__law_pieces [some (dsp P S L d, false), some (cam E N, false), none, none, none, none, none, none, none, none, none]) _
  unfold c__law_pieces
  walk_at "w"
  refine we_ret e1 ?_
  generalize hF : Lit.arcF (P * S) L E N = F
  generalize hC : Lit.arcC (P * S) L E N = C
  have hM : cutM P S L E N = PySem.W.sortI (dedupI (cutsI (P * S) S F C P.toNat)) := by unfold cutM; rw [hF, hC]
  walk_at "w"
  refine ws_fr (fun k ρ => ∃ o4, ρ = [some (dsp P S L d, false), some (cam E N, false), some (.int (P * S), false), some (.list ((cutsI (P * S) S F C k).map .int), true), o4, none, some (.int F, false), some (.int C, false), none, none, none] ∧ (o4 = none ∨ ∃ y, o4 = some (y, false))) ?_
  walk_at "w"
  refine ⟨_, rfl, ⟨_, rfl, .inl rfl⟩, ?_, ?_⟩
  · rintro k x ρ hx ⟨o4, rfl, _⟩
    obtain ⟨rfl, hk⟩ := rng_at' hx
    have bk : Bd 4 (k : Int) := Bd.of (by omega) (by omega)
    walk_at "w"
    refine wo_add ?_
    walk_at "w"
    refine ⟨_, _, rfl, rfl, by rw [List.length_map, cuts_len]; simp; omega, ?_⟩
    walk_at "w"
    refine ⟨some (.int (k : Nat), false), ?_, .inr ⟨_, rfl⟩⟩
    show _ = [_, _, _, some (PyData.list ((cutsI (P * S) S F C k ++ [(F + (k : Int) * S) % (P * S), (F + C + (k : Int) * S) % (P * S)]).map .int), true), _, _, _, _, _, _, _]
    rw [List.map_append]
    rfl
  · rintro ρ ⟨o4, rfl, ho4⟩
    rw [show (rngL 0 P).length = P.toNat by rw [rng_len']; omega]
    walk_at "w"
    refine wo_add ?_
    walk_at "w"
    have hs : srsD (.list ((cutsI (P * S) S F C P.toNat).map .int)) = some (.list ((cutM P S L E N).map .int)) := by
      show (if ((cutsI (P * S) S F C P.toNat).map PyData.int).length < 64 then (intsOf ((cutsI (P * S) S F C P.toNat).map .int)).map fun is => PyData.list ((PySem.W.sortI (dedupI is)).map .int) else none) = _
      have io : ∀ is : List Int, intsOf (is.map .int) = some is := fun is => by
        induction is with
        | nil => rfl
        | cons i is ih =>
          show (intsOf (is.map .int)).map (i :: ·) = _
          rw [ih]
          rfl
      rw [if_pos (by rw [List.length_map, cuts_len]; omega), io, hM]
      rfl
    refine ⟨_, hs, ?_⟩
    walk_at "w"
    have hl := cutM_len v E N
    refine ⟨_, _, rfl, rfl, by rw [List.length_map]; simp; omega, ?_⟩
    generalize hK : cutM P S L E N = M at *
    walk_at "w"
    have hap : (M.map PyData.int ++ [PyData.int (P * S)]) = (M ++ [P * S]).map .int := by rw [List.map_append]; rfl
    rw [hap]
    refine wc_pure (fun _ => true) dif ?_
    walk_at "w"
    refine ⟨.list (((M ++ [P * S]).drop 1).map .int), by show some (PyData.list (Ev.cutD _ _ _)) = _; rw [cut_one, List.map_drop], ?_⟩
    walk_at "w"
    refine ⟨_, rfl, by rcases ho4 with rfl | ⟨y, rfl⟩ <;> rfl, ?_, by rcases ho4 with rfl | ⟨y, rfl⟩ <;> rfl, fun y hy => ?_, ?_⟩
    · refine Nat.le_trans (zip_len _ _) ?_
      rw [List.length_map, List.length_append, List.length_singleton]
      omega
    · obtain ⟨a, b, rfl, _, _⟩ := zip_mem hy
      refine ⟨_, rfl, evC_none rfl, fun _ => ?_, rfl⟩
      walk_at "w"
      exact ⟨rfl, rfl⟩
    · rw [List.filter_eq_self.2 fun _ _ => rfl, zip_pc (allS P S L E N)]
      have hpc : Lit.pcR (allS P S L E N) (M ++ [P * S]) = pcsL P S L E N := by unfold pcsL; rw [hK]
      rw [hpc]
      walk_at "w"
      refine wc_pure (fun _ => true) (fun x => match x with | .tuple [.int a, .int w] => .tuple [.int a, .int w, .bool (allS P S L E N a)] | _ => .none) ?_
      walk_at "w"
      refine ⟨_, rfl, by rcases ho4 with rfl | ⟨y, rfl⟩ <;> rfl, ?_, by rcases ho4 with rfl | ⟨y, rfl⟩ <;> rfl, fun y hy => ?_, ?_⟩
      · rw [List.length_map]
        have := pcs_len v E N
        omega
      · obtain ⟨q, hq, rfl⟩ := List.mem_map.mp hy
        obtain ⟨q1, q2, q3⟩ := pcs_in v E N q hq
        refine ⟨_, rfl, evC_none rfl, fun _ => ?_, rfl⟩
        unfold row2
        walk_at "w"
        refine we_ret (seen_val (n := n) v (N := N) (x := q.1) bE) ?_
        walk_at "w"
        rw [all_key v q1 (by omega)]
        exact ⟨rfl, rfl⟩
      · rw [List.filter_eq_self.2 fun _ _ => rfl, List.map_map]
        show CR.ok (.list _) none = _
        have hall : ∀ q ∈ Lit.pcR (allS P S L E N) (M ++ [P * S]), q.2.2 = allS P S L E N q.1 := by
          have : ∀ l : List Int, ∀ q ∈ Lit.pcR (allS P S L E N) l, q.2.2 = allS P S L E N q.1 := fun l => by
            induction l with
            | nil => intro q hq; cases hq
            | cons a l ih =>
              cases l with
              | nil => intro q hq; cases hq
              | cons b l =>
                intro q hq
                unfold Lit.pcR at hq
                rcases List.mem_cons.mp hq with rfl | hq
                · rfl
                · exact ih q hq
          exact this _
        rw [hpc] at hall
        congr 2
        refine List.map_congr_left fun q hq => ?_
        show PyData.tuple [.int q.1, .int q.2.1, .bool (allS P S L E N q.1)] = rowD q
        rw [← hall q hq]
        rfl
end K20

set_option Elab.async false
set_option linter.all false
set_option maxRecDepth 100000
set_option maxHeartbeats 4000000
namespace K20
set_option exponentiation.threshold 5000
open PySem PySem.Spec PyProof.Rows L2 PySem.W Ev
local macro_rules | `(tactic| walk_at "set") => `(tactic| (repeat (with_reducible refine' set_s ?_)); exact set_z)
local macro_rules | `(tactic| walk_at "bd") => `(tactic| first
  | assumption
  | exact Bd.lit (k := 400) (by decide +kernel)
  | ((with_reducible refine' Bd.add ?b1 ?b2); (case b1 => walk_at "bd"); (case b2 => walk_at "bd"))
  | ((with_reducible refine' Bd.sub ?b1 ?b2); (case b1 => walk_at "bd"); (case b2 => walk_at "bd"))
  | ((with_reducible refine' Bd.mul ?b1 ?b2); (case b1 => walk_at "bd"); (case b2 => walk_at "bd"))
  | ((with_reducible refine' Bd.neg ?b1); (case b1 => walk_at "bd"))
  | ((with_reducible refine' Bd.pow3 ?b1); (case b1 => walk_at "bd"))
  | ((with_reducible refine' Bd.pow2 ?b1); (case b1 => walk_at "bd"))
  | ((with_reducible refine' Bd.modP ?m1 ?m2); (case m1 => walk_at "bd"); (case m2 => first | decide | omega))
  | ((with_reducible refine' Bd.div ?m1 ?m2); (case m1 => walk_at "bd"); (case m2 => first | decide | omega)))
local macro_rules | `(tactic| walk_at "mul") => `(tactic| first
  | exact mulS1 (by decide) | exact mulS2 (by decide)
  | exact mulS1 (by assumption) | exact mulS2 (by assumption)
  | (refine' mulB ?m1 ?m2 ?m3 ?m4; (case m1 => walk_at "bd"); (case m2 => walk_at "bd"); (case m3 => decide); (case m4 => decide)))
local macro_rules | `(tactic| walk_at "big") => `(tactic| first
  | assumption
  | decide
  | (refine' Bd.big ?m1 ?m2; (case m1 => walk_at "bd"); (case m2 => decide)))
local macro_rules | `(tactic| walk_at "e") => `(tactic| first
  | ((with_reducible refine' we_var ?w1 ?_); (case w1 => exact rfl))
  | ((with_reducible refine' we_varO ?w1 ?w2 ?_); (case w1 => exact rfl); (case w2 => exact rfl))
  | with_reducible refine' we_cst ?_
  | with_reducible refine' we_gcn ?_
  | with_reducible refine' we_bin ?_
  | with_reducible refine' we_cmp ?_
  | ((with_reducible refine' we_idv ?w1 ?_); (case w1 => exact rfl))
  | ((with_reducible refine' we_idvO ?w1 ?_); (case w1 => exact rfl))
  | with_reducible refine' we_call ?_
  | ((with_reducible refine' we_cio ?w1 ?_); (case w1 => exact rfl))
  | with_reducible refine' we_blt ?_
  | with_reducible refine' we_nil ?_
  | with_reducible refine' we_cons ?_
  | ((with_reducible refine' wn_e ?w1 ?_); (case w1 => walk_at "set"))
  | ((with_reducible refine' wn_a ?w1 ?_); (case w1 => walk_at "set"))
  | ((with_reducible refine' wn_p ?w1 ?_); (case w1 => walk_at "set"))
  | ((with_reducible refine' wn_o ?w1 ?_); (case w1 => walk_at "set"))
  | with_reducible refine' we_tup ?_
  | with_reducible refine' we_lst ?_
  | with_reducible refine' we_idx ?_
  | with_reducible refine' we_not ?_
  | with_reducible refine' we_neg ?_
  | with_reducible refine' we_chn ?_
  | with_reducible refine' we_ite ?_
  | with_reducible refine' we_isi ?_
  | with_reducible refine' we_slc ?_
  | with_reducible refine' we_rev ?_
  | with_reducible refine' we_lr1 ?_
  | with_reducible refine' we_lr2 ?_
  | with_reducible refine' we_mnd ?_
  | with_reducible refine' we_gcd ?_
  | with_reducible refine' we_srs ?_
  | with_reducible refine' we_mth ?_
  | with_reducible refine' we_dct ?_
  | with_reducible refine' we_comp ?_
  | ((with_reducible refine' we_rpo ?w1 ?_); (case w1 => exact rfl))
  | with_reducible refine' evO_none ?_
  | with_reducible refine' evO_some ?_
  | with_reducible refine' wo_lst ?_
  | with_reducible refine' wo_comp ?_
  | with_reducible refine' wo_list ?_
  | with_reducible refine' wo_srt ?_
  | with_reducible refine' wo_ite ?_
  | with_reducible refine' wo_call ?_
  | ((with_reducible refine' wo_cio ?w1 ?_); (case w1 => exact rfl))
  | with_reducible refine' wp_nil ?_
  | with_reducible refine' wp_own ?_
  | with_reducible refine' wp_ev ?_)
local macro_rules | `(tactic| walk_at "x") => `(tactic| first
  | with_reducible refine' ex_add ?_
  | ((with_reducible refine' ex_cat ?w1 ?_); (case w1 => first | (simp only [List.length_append, List.length_cons, List.length_nil]; omega)))
  | with_reducible refine' ex_sub ?_
  | with_reducible refine' ex_augA ?_
  | with_reducible refine' ex_augS ?_
  | ((with_reducible refine' ex_mul ?w1 ?_); (case w1 => walk_at "mul"))
  | ((with_reducible refine' ex_mod ?w1 ?_); (case w1 => first | decide | omega))
  | ((with_reducible refine' ex_fdiv ?w1 ?w2 ?_); (case w1 => first | decide | omega); (case w2 => walk_at "big"))
  | with_reducible refine' xo_tru ?_
  | with_reducible refine' xo_bool ?_
  | with_reducible refine' xo_int ?_
  | ((with_reducible refine' xo_at ?w1 ?_); (case w1 => exact rfl))
  | ((with_reducible refine' xo_atL ?w1 ?_); (case w1 => exact rfl))
  | ((with_reducible refine' xo_ix ?w1 ?_); (case w1 => exact rfl))
  | ((with_reducible refine' xo_tg ?w1 ?_); (case w1 => exact rfl))
  | ((with_reducible refine' xo_pa ?w1 ?_); (case w1 => exact rfl))
  | ((with_reducible refine' xo_sub0 ?w1 ?w2 ?_); (case w1 => exact rfl); (case w2 => first | decide | omega))
  | ((with_reducible refine' xo_sub1 ?w1 ?w2 ?_); (case w1 => exact rfl); (case w2 => first | decide | omega))
  | ((with_reducible refine' xo_sub2 ?w1 ?w2 ?_); (case w1 => exact rfl); (case w2 => first | decide | omega))
  | ((with_reducible refine' xo_sub ?w1 ?w2 ?_); (case w1 => exact rfl); (case w2 => exact rfl))
  | ((with_reducible refine' xo_app ?w1 ?w2 ?_); (case w1 => exact rfl); (case w2 => first | decide | (simp only [List.length_append, List.length_cons, List.length_nil]; omega)))
  | with_reducible refine' xb_int ?_
  | with_reducible refine' xb_max ?_
  | with_reducible refine' xb_min ?_
  | with_reducible refine' xb_abs ?_
  | with_reducible refine' xb_len ?_
  | with_reducible refine' xb_lenT ?_
  | with_reducible refine' xn_neg ?_
  | ((with_reducible refine' xb_divmod ?w1 ?w2 ?_); (case w1 => first | decide | omega); (case w2 => walk_at "big"))
  | ((with_reducible refine' xl ?w1 ?_); (case w1 => first | (simp only [List.length_append, List.length_cons, List.length_nil]; omega)))
  | ((with_reducible refine' xl' ?w1 ?_); (case w1 => first | (simp only [List.length_append, List.length_cons, List.length_nil]; omega)))
  | with_reducible refine' x_rr ?_
  | with_reducible refine' xi_int ?_
  | with_reducible refine' xi_bool ?_
  | ((with_reducible refine' nt_pos ?_))
  | ((with_reducible refine' nt_neg ?_))
  | ((with_reducible refine' tf_pos ?_))
  | ((with_reducible refine' tf_neg ?_))
  | ((with_reducible refine' dec_pos ?w1 ?_); (case w1 => first | with_reducible rfl | assumption | omega))
  | ((with_reducible refine' dec_neg ?w1 ?_); (case w1 => first | with_reducible rfl | assumption | omega))
  | ((with_reducible refine' ndec_pos ?w1 ?_); (case w1 => first | with_reducible rfl | assumption | omega))
  | ((with_reducible refine' ndec_neg ?w1 ?_); (case w1 => first | with_reducible rfl | assumption | omega))
  | with_reducible refine' ex_lt ?_
  | with_reducible refine' ex_le ?_
  | with_reducible refine' ex_gt ?_
  | with_reducible refine' ex_ge ?_
  | with_reducible refine' ex_eq ?_
  | with_reducible refine' ex_ne ?_
  | with_reducible refine' ex_eqS ?_
  | with_reducible refine' ex_neS ?_
  | ((with_reducible refine' ex_reprI ?w1 ?_); (case w1 => first | (refine' Bd.up ?m1 ?m2); (case m1 => walk_at "bd"); (case m2 => decide)))
  | with_reducible refine' ex_reprB ?_
  | ((with_reducible refine' xq3 ?w1 ?_); (case w1 => walk_at "big"))
  | ((with_reducible refine' xq2 ?w1 ?_); (case w1 => walk_at "big"))
  | first | with_reducible refine' xt2 ?_ | with_reducible refine' xt3 ?_ | with_reducible refine' xt4 ?_ | with_reducible refine' xt5 ?_ | with_reducible refine' xt6 ?_ | with_reducible refine' xt7 ?_ | with_reducible refine' xt8 ?_ | with_reducible refine' xt9 ?_ | with_reducible refine' xt10 ?_ | with_reducible refine' xt12 ?_ | with_reducible refine' xt16 ?_ | with_reducible refine' xt17 ?_ | with_reducible refine' xt18 ?_ | with_reducible refine' xt19 ?_ | with_reducible refine' xt20 ?_ | with_reducible refine' xt21 ?_ | with_reducible refine' xt22 ?_ | with_reducible refine' xt23 ?_ | with_reducible refine' xt24 ?_ | with_reducible refine' xt25 ?_ | with_reducible refine' xt26 ?_ | with_reducible refine' xt27 ?_ | with_reducible refine' xt28 ?_ | with_reducible refine' xt29 ?_ | with_reducible refine' xt30 ?_ | with_reducible refine' xt38 ?_ | with_reducible refine' xt41 ?_ | with_reducible refine' xt44 ?_ | with_reducible refine' xt46 ?_ | with_reducible refine' xt50 ?_ | with_reducible refine' xt60 ?_
  | with_reducible refine' xp1 ?_ | with_reducible refine' xp2 ?_ | with_reducible refine' xp21 ?_ | with_reducible refine' xp3 ?_ | with_reducible refine' xp321 ?_
  | with_reducible refine' xp4 ?_ | with_reducible refine' xp4321 ?_ | with_reducible refine' xp5 ?_ | with_reducible refine' xp54321 ?_ | with_reducible refine' xp6 ?_ | with_reducible refine' xp0 ?_)
local macro_rules | `(tactic| walk_at "s") => `(tactic| first
  | ((with_reducible refine' wn_s ?w1 ?_); (case w1 => walk_at "set"))
  | ((with_reducible refine' ws_asg ?w1 ?_); (case w1 => exact rfl))
  | ((with_reducible refine' ws_own ?w1 ?_); (case w1 => exact rfl))
  | with_reducible refine' ws_par ?_
  | ((with_reducible refine' ws_aug ?w1 ?w2 ?_); (case w1 => exact rfl); (case w2 => exact rfl))
  | with_reducible refine' ws_unp ?_
  | ((with_reducible refine' ws_sub ?w1 ?_); (case w1 => exact rfl))
  | ((with_reducible refine' ws_app ?w1 ?_); (case w1 => exact rfl))
  | with_reducible refine' ws_exp ?_
  | with_reducible refine' ws_pas ?_
  | with_reducible refine' ws_iff ?_
  | with_reducible refine' ws_ret ?_
  | with_reducible refine' ws_retO ?_
  | with_reducible refine' ws_retN ?_
  | ((with_reducible refine' ws_retV ?w1 ?_); (case w1 => exact rfl))
  | ((with_reducible refine' ws_retVO ?w1 ?w2 ?_); (case w1 => exact rfl); (case w2 => exact rfl))
  | with_reducible refine' ws_nilq ?_
  | with_reducible refine' ws_nill ?_
  | with_reducible refine' ws_nil ?_)
local macro_rules | `(tactic| walk_at "w") => `(tactic| (repeat' (first | walk_at "e" | walk_at "s" | walk_at "x")))
local macro_rules | `(tactic| walk_at "pk") => `(tactic| (repeat' (first | exact fun _ hx => absurd hx (List.not_mem_nil) | refine List.forall_mem_cons.2 ⟨?_, ?_⟩)))
local macro_rules | `(tactic| walk_at "bdu") => `(tactic| (refine' Bd.up ?m1 ?m2; (case m1 => walk_at "bd"); (case m2 => decide)))
local macro_rules | `(tactic| walk_at "len") => `(tactic| (simp only [List.length_cons, List.length_nil]; omega))
theorem k_first : Lk tbl "_law_first_right" 9 6 false c__law_first_right := ⟨d__law_first_right, by kernel_rfl, rfl, rfl, rfl, rfl⟩
variable {n : Nat} {P S L : Int} {d : Str}
/-- in how many of the first pictures all places are seen, or not -/
def cB (P S L E N : Int) (b : Bool) (f g : Int) (M : Nat) : Int := Lit.sm (fun k => if allS P S L E N ((f + k * g) % (P * S)) = b then 1 else 0) M
def term (b : Bool) (f g R : Int) (M : Nat) (q : Int × Int × Bool) : Int := if q.2.2 = b then Lit.SF (f - q.1) g R M - Lit.SF (f - q.1 - q.2.1) g R M else 0
theorem terms_sum (v : Val P S L d) (E N : Int) (b : Bool) (f g : Int) (M : Nat) : ((pcsL P S L E N).map (term b f g (P * S) M)).sum = cB P S L E N b f g M := by
  have R0 := v.sR.2
  have h1 : (pcsL P S L E N).map (term b f g (P * S) M) = (pcsL P S L E N).map fun q => Lit.sm (fun k => Lit.pcI b ((f + (k : Int) * g) % (P * S)) q) M := by
    refine List.map_congr_left fun q hq => ?_
    obtain ⟨q1, q2, q3⟩ := pcs_in v E N q hq
    unfold term Lit.pcI
    split
    · rw [← Lit.cnt_ind R0 q1 (show q.1 ≤ q.1 + q.2.1 - 1 + 1 by omega) (by omega), show f - (q.1 + q.2.1 - 1) - 1 = f - q.1 - q.2.1 by omega]
    · rw [Lit.sm_const, Int.mul_zero]
  rw [h1, Lit.sm_sum]
  unfold cB
  refine Lit.sm_congr fun k _ => ?_
  exact pcs_sum v E N b (Int.emod_nonneg _ (by omega)) (Int.emod_lt_of_pos _ R0)
theorem counted_val (v : Val P S L d) (E N : Int) (b : Bool) {f g : Int} {M : Nat} (hR : P * S < 2 ^ 96) (g1 : 1 ≤ g) (bf : Bd 300 f) (bg : Bd 300 g) (bM : Bd 300 (M : Int)) :
    calN tbl (n + 200) "_law_counted" [dsp P S L d, .list ((pcsL P S L E N).map rowD), .int f, .int g, .int (M : Nat), .bool b] = .ok (.int (cB P S L E N b f g M)) none := by
  have R0 := v.sR.2
  have bP := v.pb
  have bS := v.sb
  have bR := v.rb
  have hq : (P * S) * (g % (P * S)) < 2 ^ 192 := by
    have h0 := Int.emod_nonneg g (show P * S ≠ 0 by omega)
    have h1 := Int.emod_lt_of_pos g R0
    have h2 := Int.mul_le_mul (Int.le_of_lt hR) (Int.le_of_lt (Int.lt_trans h1 hR)) h0 (show (0 : Int) ≤ 2 ^ 96 by decide)
    have h3 := Int.mul_lt_mul_of_pos_left h1 R0
    have h4 : (P * S) * (P * S) < 2 ^ 96 * 2 ^ 96 := Int.lt_of_lt_of_le (Int.mul_lt_mul_of_pos_left hR R0) (Int.mul_le_mul_of_nonneg_right (Int.le_of_lt hR) (by decide))
    have h5 : (2 : Int) ^ 96 * 2 ^ 96 = 2 ^ 192 := by decide
    omega
  have quo : ∀ a : Int, Bd 400 a → calN tbl (n + 199) "_law_quotients" [.int (M : Nat), .int (P * S), .int g, .int a] = .ok (.int (Lit.SF a g (P * S) M)) none := fun a ba =>
    quo_val 192 (n + 6) (by omega) (by omega) ba (bg.up (by decide)) (bR.up (by decide)) (bM.up (by decide)) hq
  rw [← terms_sum v]
  generalize hQ : pcsL P S L E N = Q
  have hin : ∀ q ∈ Q, Bd 304 q.1 ∧ Bd 304 q.2.1 := fun q hq => by
    rw [← hQ] at hq
    obtain ⟨q1, q2, q3⟩ := pcs_in v E N q hq
    exact ⟨bR.between (by omega) (by omega), bR.between (by omega) (by omega)⟩
  refine wc_run (n := n + 199) (P := fun z => z = _) k_counted rfl ?_
  show WS (evB (calN tbl (n + 199)) false c__law_counted [some (dsp P S L d, false), some (.list (Q.map rowD), false), some (.int f, false), some (.int g, false), some (.int (M : Nat), false), some (.bool b, false), none, none, none, none, none]) _
  unfold c__law_counted
  walk_at "w"
  refine ws_fr (fun k ρ => ∃ t o8 o9 o10, ρ = [some (dsp P S L d, false), some (.list (Q.map rowD), false), some (.int f, false), some (.int g, false), some (.int (M : Nat), false), some (.bool b, false), some (.int (P * S), false), some (.int t, false), o8, o9, o10] ∧ t + ((Q.drop k).map (term b f g (P * S) M)).sum = (Q.map (term b f g (P * S) M)).sum) ?_
  walk_at "w"
  refine ⟨_, rfl, ⟨0, _, _, _, rfl, by rw [List.drop_zero, Int.zero_add]⟩, ?_, ?_⟩
  · rintro k x ρ hx ⟨t, o8, o9, o10, rfl, ht⟩
    rw [List.getElem?_map] at hx
    cases hk : Q[k]? with
    | none => rw [hk] at hx; cases hx
    | some q =>
      rw [hk] at hx
      cases hx
      obtain ⟨hlt, he⟩ := List.getElem?_eq_some_iff.mp hk
      rw [List.drop_eq_getElem_cons hlt, he, List.map_cons, List.sum_cons] at ht
      obtain ⟨b1, b2⟩ := hin q (List.mem_of_getElem? hk)
      obtain ⟨a, w, c⟩ := q
      unfold rowD
      have ce : cmpD .Eq (.bool c) (.bool b) = some (decide (c = b)) := by cases c <;> cases b <;> rfl
      walk_at "w"
      refine ⟨_, ce, ?_⟩
      walk_at "w"
      refine dec_both (fun h => ?_) (fun h => ?_)
      · walk_at "w"
        refine we_ret (quo _ ((bf.sub b1).up (by decide))) ?_
        walk_at "w"
        refine we_ret (quo _ (((bf.sub b1).sub b2).up (by decide))) ?_
        walk_at "w"
        refine ⟨_, _, _, _, rfl, ?_⟩
        rw [show term b f g (P * S) M (a, w, c) = Lit.SF (f - a) g (P * S) M - Lit.SF (f - a - w) g (P * S) M from if_pos h] at ht
        rw [← ht]
        show _ + Lit.SF (f - a) g (P * S) M - Lit.SF (f - a - w) g (P * S) M + _ = _
        omega
      · walk_at "w"
        refine ⟨_, _, _, _, rfl, ?_⟩
        rw [show term b f g (P * S) M (a, w, c) = 0 from if_neg h, Int.zero_add] at ht
        exact ht
  · rintro ρ ⟨t, o8, o9, o10, rfl, ht⟩
    rw [List.length_map, List.drop_length] at ht
    walk_at "w"
    show CR.ok _ none = _
    rw [← ht]
    simp
theorem cB_le (P S L E N : Int) (b : Bool) (f g : Int) : ∀ M : Nat, 0 ≤ cB P S L E N b f g M ∧ cB P S L E N b f g M ≤ M
  | 0 => ⟨Int.le_refl _, Int.le_refl _⟩
  | M + 1 => by
    have h := cB_le P S L E N b f g M
    have e : cB P S L E N b f g (M + 1) = cB P S L E N b f g M + (if allS P S L E N ((f + (M : Int) * g) % (P * S)) = b then 1 else 0) := rfl
    rw [e]
    split <;> omega
theorem cB_zero {E N f g : Int} {b : Bool} : ∀ {M : Nat}, (∀ k : Nat, k < M → allS P S L E N ((f + (k : Int) * g) % (P * S)) ≠ b) → cB P S L E N b f g M = 0
  | 0, _ => rfl
  | M + 1, h => by
    have e : cB P S L E N b f g (M + 1) = cB P S L E N b f g M + (if allS P S L E N ((f + (M : Int) * g) % (P * S)) = b then 1 else 0) := rfl
    rw [e, cB_zero fun k hk => h k (by omega), if_neg (h M (by omega))]
    rfl
/-- the first one of a kind -/
def FinB (P S L E N : Int) (b : Bool) (f g : Int) : Option Int → Prop
  | some k => 0 ≤ k ∧ allS P S L E N ((f + k * g) % (P * S)) = b ∧ ∀ j, 0 ≤ j → j < k → allS P S L E N ((f + j * g) % (P * S)) ≠ b
  | none => ∀ j, 0 ≤ j → allS P S L E N ((f + j * g) % (P * S)) ≠ b
theorem finB_lt (v : Val P S L d) {E N f g : Int} {b : Bool} {k : Int} (h : FinB P S L E N b f g (some k)) : k < P * S := by
  have R0 := v.sR.2
  obtain ⟨h0, h1, h2⟩ := h
  refine Classical.byContradiction fun q => h2 (k - P * S) (by omega) (by omega) ?_
  rw [show f + (k - P * S) * g = f + k * g + (P * S) * (-g) by rw [Int.sub_mul, Int.mul_neg]; omega, Int.add_mul_emod_self_left]
  exact h1
theorem first_val (v : Val P S L d) (E N : Int) (b : Bool) {f g : Int} {o : Option Int} (hR : P * S < 2 ^ 96) (g1 : 1 ≤ g) (bf : Bd 300 f) (bg : Bd 300 g) (ho : FinB P S L E N b f g o) :
    calN tbl (n + 201) "_law_first_right" [dsp P S L d, .list ((pcsL P S L E N).map rowD), .int f, .int g, oD o, .bool b] = .ok (.bool true) none := by
  have R0 := v.sR.2
  have bP := v.pb
  have bS := v.sb
  have hR2 := hR
  rw [show (2 : Int) ^ 96 = 79228162514264337593543950336 by decide] at hR2
  have bR : Bd 100 (P * S) := Bd.of (by omega) (by omega)
  have cv : ∀ M : Nat, Bd 300 (M : Int) → calN tbl (n + 200) "_law_counted" [dsp P S L d, .list ((pcsL P S L E N).map rowD), .int f, .int g, .int (M : Nat), .bool b] = .ok (.int (cB P S L E N b f g M)) none := fun M bM => counted_val (n := n) v E N b hR g1 bf bg bM
  refine wc_run (n := n + 200) (P := fun z => z = _) k_first rfl ?_
  show WS (evB (calN tbl (n + 200)) false c__law_first_right [some (dsp P S L d, false), some (.list ((pcsL P S L E N).map rowD), false), some (.int f, false), some (.int g, false), some (oD o, false), some (.bool b, false), none, none, none]) _
  unfold c__law_first_right
  cases o with
  | none =>
    obtain ⟨M, hM⟩ := Int.eq_ofNat_of_zero_le (show 0 ≤ P * S by omega)
    have e := cv M (by rw [← hM]; exact bR.up (by decide))
    rw [cB_zero fun k _ => ho k (by omega)] at e
    show WS (evB (calN tbl (n + 200)) false _ [some (dsp P S L d, false), some (.list ((pcsL P S L E N).map rowD), false), some (.int f, false), some (.int g, false), some (.none, false), some (.bool b, false), none, none, none]) _
    walk_at "w"
    refine ⟨true, rfl, ?_⟩
    walk_at "w"
    rw [hM]
    refine we_ret e ?_
    walk_at "w"
    rfl
  | some k =>
    have lt := finB_lt v ho
    obtain ⟨h0, h1, h2⟩ := ho
    obtain ⟨M, rfl⟩ := Int.eq_ofNat_of_zero_le h0
    have e0 := cv M (bR.between (by omega) (by omega) |>.up (by decide))
    have e1 := cv (M + 1) (bR.between (i := ((M + 1 : Nat) : Int)) (by omega) (by omega) |>.up (by decide))
    have z0 : cB P S L E N b f g M = 0 := cB_zero fun k hk => h2 k (by omega) (by omega)
    have z1 : cB P S L E N b f g (M + 1) = 1 := by
      have e : cB P S L E N b f g (M + 1) = cB P S L E N b f g M + (if allS P S L E N ((f + (M : Int) * g) % (P * S)) = b then 1 else 0) := rfl
      rw [e, z0, if_pos h1]
      rfl
    rw [z0] at e0
    rw [z1] at e1
    show WS (evB (calN tbl (n + 200)) false _ [some (dsp P S L d, false), some (.list ((pcsL P S L E N).map rowD), false), some (.int f, false), some (.int g, false), some (.int (M : Nat), false), some (.bool b, false), none, none, none]) _
    walk_at "w"
    refine ⟨false, rfl, ?_⟩
    walk_at "w"
    refine we_or ?_
    walk_at "w"
    refine we_or ?_
    walk_at "w"
    refine wc_pure (fun _ => true) id ?_
    walk_at "w"
    refine ⟨_, rfl, rfl, by decide, rfl, fun y hy => ?_, ?_⟩
    · simp only [List.mem_cons, List.not_mem_nil, or_false] at hy
      rcases hy with rfl | rfl
      · refine ⟨_, rfl, evC_none rfl, fun _ => ?_, rfl⟩
        walk_at "w"
        rw [Int.add_zero]
        refine we_ret e0 ?_
        exact ⟨rfl, rfl⟩
      · refine ⟨_, rfl, evC_none rfl, fun _ => ?_, rfl⟩
        walk_at "w"
        refine we_ret e1 ?_
        exact ⟨rfl, rfl⟩
    · walk_at "w"
      refine ⟨true, rfl, ?_⟩
      walk_at "w"
      rfl
end K20

set_option Elab.async false
set_option linter.all false
set_option maxRecDepth 100000
set_option maxHeartbeats 4000000
namespace K20
set_option exponentiation.threshold 5000
open PySem PySem.Spec PyProof.Rows L2 PySem.W Ev
local macro_rules | `(tactic| walk_at "set") => `(tactic| (repeat (with_reducible refine' set_s ?_)); exact set_z)
local macro_rules | `(tactic| walk_at "bd") => `(tactic| first
  | assumption
  | exact Bd.lit (k := 400) (by decide +kernel)
  | ((with_reducible refine' Bd.add ?b1 ?b2); (case b1 => walk_at "bd"); (case b2 => walk_at "bd"))
  | ((with_reducible refine' Bd.sub ?b1 ?b2); (case b1 => walk_at "bd"); (case b2 => walk_at "bd"))
  | ((with_reducible refine' Bd.mul ?b1 ?b2); (case b1 => walk_at "bd"); (case b2 => walk_at "bd"))
  | ((with_reducible refine' Bd.neg ?b1); (case b1 => walk_at "bd"))
  | ((with_reducible refine' Bd.pow3 ?b1); (case b1 => walk_at "bd"))
  | ((with_reducible refine' Bd.pow2 ?b1); (case b1 => walk_at "bd"))
  | ((with_reducible refine' Bd.modP ?m1 ?m2); (case m1 => walk_at "bd"); (case m2 => first | decide | omega))
  | ((with_reducible refine' Bd.div ?m1 ?m2); (case m1 => walk_at "bd"); (case m2 => first | decide | omega)))
local macro_rules | `(tactic| walk_at "mul") => `(tactic| first
  | exact mulS1 (by decide) | exact mulS2 (by decide)
  | exact mulS1 (by assumption) | exact mulS2 (by assumption)
  | (refine' mulB ?m1 ?m2 ?m3 ?m4; (case m1 => walk_at "bd"); (case m2 => walk_at "bd"); (case m3 => decide); (case m4 => decide)))
local macro_rules | `(tactic| walk_at "big") => `(tactic| first
  | assumption
  | decide
  | (refine' Bd.big ?m1 ?m2; (case m1 => walk_at "bd"); (case m2 => decide)))
local macro_rules | `(tactic| walk_at "e") => `(tactic| first
  | ((with_reducible refine' we_var ?w1 ?_); (case w1 => exact rfl))
  | ((with_reducible refine' we_varO ?w1 ?w2 ?_); (case w1 => exact rfl); (case w2 => exact rfl))
  | with_reducible refine' we_cst ?_
  | with_reducible refine' we_gcn ?_
  | with_reducible refine' we_bin ?_
  | with_reducible refine' we_cmp ?_
  | ((with_reducible refine' we_idv ?w1 ?_); (case w1 => exact rfl))
  | ((with_reducible refine' we_idvO ?w1 ?_); (case w1 => exact rfl))
  | with_reducible refine' we_call ?_
  | ((with_reducible refine' we_cio ?w1 ?_); (case w1 => exact rfl))
  | with_reducible refine' we_blt ?_
  | with_reducible refine' we_nil ?_
  | with_reducible refine' we_cons ?_
  | ((with_reducible refine' wn_e ?w1 ?_); (case w1 => walk_at "set"))
  | ((with_reducible refine' wn_a ?w1 ?_); (case w1 => walk_at "set"))
  | ((with_reducible refine' wn_p ?w1 ?_); (case w1 => walk_at "set"))
  | ((with_reducible refine' wn_o ?w1 ?_); (case w1 => walk_at "set"))
  | with_reducible refine' we_tup ?_
  | with_reducible refine' we_lst ?_
  | with_reducible refine' we_idx ?_
  | with_reducible refine' we_not ?_
  | with_reducible refine' we_neg ?_
  | with_reducible refine' we_chn ?_
  | with_reducible refine' we_ite ?_
  | with_reducible refine' we_isi ?_
  | with_reducible refine' we_slc ?_
  | with_reducible refine' we_rev ?_
  | with_reducible refine' we_lr1 ?_
  | with_reducible refine' we_lr2 ?_
  | with_reducible refine' we_mnd ?_
  | with_reducible refine' we_gcd ?_
  | with_reducible refine' we_srs ?_
  | with_reducible refine' we_mth ?_
  | with_reducible refine' we_dct ?_
  | with_reducible refine' we_comp ?_
  | ((with_reducible refine' we_rpo ?w1 ?_); (case w1 => exact rfl))
  | with_reducible refine' evO_none ?_
  | with_reducible refine' evO_some ?_
  | with_reducible refine' wo_lst ?_
  | with_reducible refine' wo_comp ?_
  | with_reducible refine' wo_list ?_
  | with_reducible refine' wo_srt ?_
  | with_reducible refine' wo_ite ?_
  | with_reducible refine' wo_call ?_
  | ((with_reducible refine' wo_cio ?w1 ?_); (case w1 => exact rfl))
  | with_reducible refine' wp_nil ?_
  | with_reducible refine' wp_own ?_
  | with_reducible refine' wp_ev ?_)
local macro_rules | `(tactic| walk_at "x") => `(tactic| first
  | with_reducible refine' ex_add ?_
  | ((with_reducible refine' ex_cat ?w1 ?_); (case w1 => first | (simp only [List.length_append, List.length_cons, List.length_nil]; omega)))
  | with_reducible refine' ex_sub ?_
  | with_reducible refine' ex_augA ?_
  | with_reducible refine' ex_augS ?_
  | ((with_reducible refine' ex_mul ?w1 ?_); (case w1 => walk_at "mul"))
  | ((with_reducible refine' ex_mod ?w1 ?_); (case w1 => first | decide | omega))
  | ((with_reducible refine' ex_fdiv ?w1 ?w2 ?_); (case w1 => first | decide | omega); (case w2 => walk_at "big"))
  | with_reducible refine' xo_tru ?_
  | with_reducible refine' xo_bool ?_
  | with_reducible refine' xo_int ?_
  | ((with_reducible refine' xo_at ?w1 ?_); (case w1 => exact rfl))
  | ((with_reducible refine' xo_atL ?w1 ?_); (case w1 => exact rfl))
  | ((with_reducible refine' xo_ix ?w1 ?_); (case w1 => exact rfl))
  | ((with_reducible refine' xo_tg ?w1 ?_); (case w1 => exact rfl))
  | ((with_reducible refine' xo_pa ?w1 ?_); (case w1 => exact rfl))
  | ((with_reducible refine' xo_sub0 ?w1 ?w2 ?_); (case w1 => exact rfl); (case w2 => first | decide | omega))
  | ((with_reducible refine' xo_sub1 ?w1 ?w2 ?_); (case w1 => exact rfl); (case w2 => first | decide | omega))
  | ((with_reducible refine' xo_sub2 ?w1 ?w2 ?_); (case w1 => exact rfl); (case w2 => first | decide | omega))
  | ((with_reducible refine' xo_sub ?w1 ?w2 ?_); (case w1 => exact rfl); (case w2 => exact rfl))
  | ((with_reducible refine' xo_app ?w1 ?w2 ?_); (case w1 => exact rfl); (case w2 => first | decide | (simp only [List.length_append, List.length_cons, List.length_nil]; omega)))
  | with_reducible refine' xb_int ?_
  | with_reducible refine' xb_max ?_
  | with_reducible refine' xb_min ?_
  | with_reducible refine' xb_abs ?_
  | with_reducible refine' xb_len ?_
  | with_reducible refine' xb_lenT ?_
  | with_reducible refine' xn_neg ?_
  | ((with_reducible refine' xb_divmod ?w1 ?w2 ?_); (case w1 => first | decide | omega); (case w2 => walk_at "big"))
  | ((with_reducible refine' xl ?w1 ?_); (case w1 => first | (simp only [List.length_append, List.length_cons, List.length_nil]; omega)))
  | ((with_reducible refine' xl' ?w1 ?_); (case w1 => first | (simp only [List.length_append, List.length_cons, List.length_nil]; omega)))
  | with_reducible refine' x_rr ?_
  | with_reducible refine' xi_int ?_
  | with_reducible refine' xi_bool ?_
  | ((with_reducible refine' nt_pos ?_))
  | ((with_reducible refine' nt_neg ?_))
  | ((with_reducible refine' tf_pos ?_))
  | ((with_reducible refine' tf_neg ?_))
  | ((with_reducible refine' dec_pos ?w1 ?_); (case w1 => first | with_reducible rfl | assumption | omega))
  | ((with_reducible refine' dec_neg ?w1 ?_); (case w1 => first | with_reducible rfl | assumption | omega))
  | ((with_reducible refine' ndec_pos ?w1 ?_); (case w1 => first | with_reducible rfl | assumption | omega))
  | ((with_reducible refine' ndec_neg ?w1 ?_); (case w1 => first | with_reducible rfl | assumption | omega))
  | with_reducible refine' ex_lt ?_
  | with_reducible refine' ex_le ?_
  | with_reducible refine' ex_gt ?_
  | with_reducible refine' ex_ge ?_
  | with_reducible refine' ex_eq ?_
  | with_reducible refine' ex_ne ?_
  | with_reducible refine' ex_eqS ?_
  | with_reducible refine' ex_neS ?_
  | ((with_reducible refine' ex_reprI ?w1 ?_); (case w1 => first | (refine' Bd.up ?m1 ?m2); (case m1 => walk_at "bd"); (case m2 => decide)))
  | with_reducible refine' ex_reprB ?_
  | ((with_reducible refine' xq3 ?w1 ?_); (case w1 => walk_at "big"))
  | ((with_reducible refine' xq2 ?w1 ?_); (case w1 => walk_at "big"))
  | first | with_reducible refine' xt2 ?_ | with_reducible refine' xt3 ?_ | with_reducible refine' xt4 ?_ | with_reducible refine' xt5 ?_ | with_reducible refine' xt6 ?_ | with_reducible refine' xt7 ?_ | with_reducible refine' xt8 ?_ | with_reducible refine' xt9 ?_ | with_reducible refine' xt10 ?_ | with_reducible refine' xt12 ?_ | with_reducible refine' xt16 ?_ | with_reducible refine' xt17 ?_ | with_reducible refine' xt18 ?_ | with_reducible refine' xt19 ?_ | with_reducible refine' xt20 ?_ | with_reducible refine' xt21 ?_ | with_reducible refine' xt22 ?_ | with_reducible refine' xt23 ?_ | with_reducible refine' xt24 ?_ | with_reducible refine' xt25 ?_ | with_reducible refine' xt26 ?_ | with_reducible refine' xt27 ?_ | with_reducible refine' xt28 ?_ | with_reducible refine' xt29 ?_ | with_reducible refine' xt30 ?_ | with_reducible refine' xt38 ?_ | with_reducible refine' xt41 ?_ | with_reducible refine' xt44 ?_ | with_reducible refine' xt46 ?_ | with_reducible refine' xt50 ?_ | with_reducible refine' xt60 ?_
  | with_reducible refine' xp1 ?_ | with_reducible refine' xp2 ?_ | with_reducible refine' xp21 ?_ | with_reducible refine' xp3 ?_ | with_reducible refine' xp321 ?_
  | with_reducible refine' xp4 ?_ | with_reducible refine' xp4321 ?_ | with_reducible refine' xp5 ?_ | with_reducible refine' xp54321 ?_ | with_reducible refine' xp6 ?_ | with_reducible refine' xp0 ?_)
local macro_rules | `(tactic| walk_at "s") => `(tactic| first
  | ((with_reducible refine' wn_s ?w1 ?_); (case w1 => walk_at "set"))
  | ((with_reducible refine' ws_asg ?w1 ?_); (case w1 => exact rfl))
  | ((with_reducible refine' ws_own ?w1 ?_); (case w1 => exact rfl))
  | with_reducible refine' ws_par ?_
  | ((with_reducible refine' ws_aug ?w1 ?w2 ?_); (case w1 => exact rfl); (case w2 => exact rfl))
  | with_reducible refine' ws_unp ?_
  | ((with_reducible refine' ws_sub ?w1 ?_); (case w1 => exact rfl))
  | ((with_reducible refine' ws_app ?w1 ?_); (case w1 => exact rfl))
  | with_reducible refine' ws_exp ?_
  | with_reducible refine' ws_pas ?_
  | with_reducible refine' ws_iff ?_
  | with_reducible refine' ws_ret ?_
  | with_reducible refine' ws_retO ?_
  | with_reducible refine' ws_retN ?_
  | ((with_reducible refine' ws_retV ?w1 ?_); (case w1 => exact rfl))
  | ((with_reducible refine' ws_retVO ?w1 ?w2 ?_); (case w1 => exact rfl); (case w2 => exact rfl))
  | with_reducible refine' ws_nilq ?_
  | with_reducible refine' ws_nill ?_
  | with_reducible refine' ws_nil ?_)
local macro_rules | `(tactic| walk_at "w") => `(tactic| (repeat' (first | walk_at "e" | walk_at "s" | walk_at "x")))
local macro_rules | `(tactic| walk_at "pk") => `(tactic| (repeat' (first | exact fun _ hx => absurd hx (List.not_mem_nil) | refine List.forall_mem_cons.2 ⟨?_, ?_⟩)))
local macro_rules | `(tactic| walk_at "bdu") => `(tactic| (refine' Bd.up ?m1 ?m2; (case m1 => walk_at "bd"); (case m2 => decide)))
local macro_rules | `(tactic| walk_at "len") => `(tactic| (simp only [List.length_cons, List.length_nil]; omega))
theorem k_right : Lk tbl "_law_right" 8 5 true c__law_right := ⟨d__law_right, by kernel_rfl, rfl, rfl, rfl, rfl⟩
theorem k_law : Lk tbl "law" 9 1 false c_law := ⟨d_law, by kernel_rfl, rfl, rfl, rfl, rfl⟩
variable {n : Nat} {P S L : Int} {d : Str}
theorem we_tap {ρ : Ro} {i C : Nat} {s : List D} {m : Int} {Q : D → Ro → Prop} (hs : SrcOk C s) (hC : C < 2 ^ 60) (hm : 0 < m) (bm : Bd 4096 m)
    (q : ∀ r s', 0 ≤ r → r < m → SrcOk (C + 1) s' → Q (.int r) (ρ.set i (some (.list s', true)))) : WE (cioR i (calN tbl (n + 1) "_law_tap" (.list s :: [.int m])) ρ) Q := by
  obtain ⟨r, s', e, h0, h1, h2⟩ := tap_lk (n := n) k_tap hC hs hm bm
  exact we_cioR e (q r s' h0 h1 h2)
local macro_rules | `(tactic| walk_at "d") => `(tactic| ((with_reducible refine' we_tap ?c0 ?c1 ?c2 ?c3 ?_); (case c0 => assumption); (case c1 => omega); (case c2 => first | decide | omega); (case c3 => walk_at "bdu")))
theorem src_up {C c : Nat} {s : List D} (hc : c ≤ C) (h : SrcOk c s) : SrcOk C s := by
  obtain ⟨x, y, c', rfl, q1, q2, q3, q4, q5⟩ := h
  exact ⟨x, y, c', rfl, q1, q2, q3, q4, by omega⟩
theorem more_val (v : Val P S L d) {C : Nat} (hC : C + 10 < 2 ^ 60) {s : List D} (hs : SrcOk C s) {E N : Int} (E1 : 1 ≤ E) (bE : Bd 310 E) (N1 : 1 ≤ N) (bR : Bd 100 (P * S)) :
    ∃ E' N' s', calN tbl (n + 2) "_law_more" [.list s, dsp P S L d, cam E N] = .ok (cam E' N') (some (.list s')) ∧ 1 ≤ E' ∧ Bd 320 E' ∧ 1 ≤ N' ∧ SrcOk (C + 3) s' := by
  have R0 := v.sR.2
  have l1 := v.l1
  have bP := v.pb
  have bS := v.sb
  have bL := v.lb
  have q0 : 0 ≤ (10000000000000000000000000000 : Int) / (P * S) := Int.ediv_nonneg (by decide) (by omega)
  have q1 : (10000000000000000000000000000 : Int) / (P * S) ≤ 10000000000000000000000000000 := Int.ediv_le_self _ (by decide)
  refine wc_runL (P := fun z => ∃ E' N' s', z = .ok (cam E' N') (some (.list s')) ∧ 1 ≤ E' ∧ Bd 320 E' ∧ 1 ≤ N' ∧ SrcOk (C + 3) s') k_more rfl ?_
  show WS (evB (calN tbl (n + 1)) true c__law_more [some (.list s, true), some (dsp P S L d, false), some (cam E N, false), none, none]) _
  unfold c__law_more
  walk_at "w"
  walk_at "d"
  intro r1 s1 a1 b1 h1
  walk_at "w"
  have fin : ∀ (t : Int) (s' : List D), 0 ≤ t → t < 20000000000000000000000000000 → SrcOk (C + 3) s' → ∃ E' N' s'', CR.ok (.tuple [.int (E + P * S * t), .int (N + L * t)]) (some (.list s')) = .ok (cam E' N') (some (.list s'')) ∧ 1 ≤ E' ∧ Bd 320 E' ∧ 1 ≤ N' ∧ SrcOk (C + 3) s'' := fun t s' t0 t1 hs' => by
    have p0 : 0 ≤ P * S * t := Int.mul_nonneg (by omega) t0
    have p1 : 0 ≤ L * t := Int.mul_nonneg (by omega) t0
    have bt : Bd 100 t := Bd.of (by omega) (by omega)
    exact ⟨_, _, _, rfl, by omega, (Bd.add bE (Bd.mul bR bt)).up (by decide), by omega, hs'⟩
  refine dec_both (fun c => ?_) (fun c => ?_)
  · walk_at "w"
    walk_at "d"
    intro r2 s2 a2 b2 h2
    walk_at "w"
    refine ex_idx (fun x => ∃ z, x = .int z ∧ 1 ≤ z ∧ z ≤ 10000000000000000000000000001) a2 (by walk_at "len") ?_ ?_
    · walk_at "pk"
      · exact ⟨_, rfl, by omega, by omega⟩
      · exact ⟨_, rfl, by omega, by omega⟩
      · exact ⟨_, rfl, by omega, by omega⟩
    rintro y ⟨z, rfl, z1, z2⟩
    have bz : Bd 100 z := Bd.of (by omega) (by omega)
    walk_at "w"
    walk_at "d"
    intro r3 s3 a3 b3 h3
    have br3 : Bd 100 r3 := Bd.of (by omega) (by omega)
    walk_at "w"
    exact fin r3 s3 a3 (by omega) (src_up (by omega) h3)
  · walk_at "w"
    exact fin 0 s1 (by decide) (by decide) (src_up (by omega) h1)
theorem fin_dark (v : Val P S L d) {E N f g : Int} : ∀ {o : Option Int}, Lit.Fin f g (P * S) (dkL P S L E N) o → FinB P S L E N false f g o := by
  have R0 := v.sR.2
  have key : ∀ x : Int, Lit.inn (dkL P S L E N) (x % (P * S)) = !allS P S L E N (x % (P * S)) := fun x =>
    Lit.lft_inn (clL_can v E N) _ (Int.emod_nonneg _ (by omega)) (Int.emod_lt_of_pos _ R0)
  intro o h
  cases o with
  | none =>
    intro j hj z
    have := h j hj
    rw [key, z] at this
    cases this
  | some k =>
    obtain ⟨h0, h1, h2⟩ := h
    rw [key] at h1
    refine ⟨h0, by simpa using h1, fun j j0 j1 z => ?_⟩
    have := h2 j j0 j1
    rw [key, z] at this
    cases this
theorem fin_clear {E N f g : Int} : ∀ {o : Option Int}, Lit.Fin f g (P * S) (clL P S L E N) o → FinB P S L E N true f g o := by
  intro o h
  cases o with
  | none =>
    intro j hj z
    have := h j hj
    unfold allS at z
    rw [z] at this
    cases this
  | some k =>
    obtain ⟨h0, h1, h2⟩ := h
    refine ⟨h0, h1, fun j j0 j1 z => ?_⟩
    have := h2 j j0 j1
    unfold allS at z
    rw [z] at this
    cases this
theorem dark_cnt (v : Val P S L d) {E N f g : Int} {M : Nat} : tot f g (P * S) M (dkL P S L E N) = cB P S L E N false f g M := by
  have R0 := v.sR.2
  rw [tot_can R0 (dkL_good v E N) (dkL_can v E N)]
  unfold cB
  refine Lit.sm_congr fun k _ => ?_
  rw [show Lit.inn (dkL P S L E N) ((f + k * g) % (P * S)) = !allS P S L E N ((f + k * g) % (P * S)) from Lit.lft_inn (clL_can v E N) _ (Int.emod_nonneg _ (by omega)) (Int.emod_lt_of_pos _ R0)]
  cases allS P S L E N ((f + k * g) % (P * S)) <;> rfl
set_option maxHeartbeats 20000000 in
theorem right_val (v : Val P S L d) {C : Nat} (hC : C + 10 < 2 ^ 60) {s : List D} (hs : SrcOk C s) {E N f g : Int} (hR : P * S < 2 ^ 96) (E1 : 1 ≤ E) (bE : Bd 320 E) (N1 : 1 ≤ N) (bf : Bd 290 f) (g1 : 1 ≤ g) (bg : Bd 290 g) :
    ∃ s', calN tbl (n + 202) "_law_right" [.list s, dsp P S L d, cam E N, .int f, .int g] = .ok (.bool true) (some (.list s')) ∧ SrcOk (C + 2) s' := by
  have hR2 := hR
  rw [show (2 : Int) ^ 96 = 79228162514264337593543950336 by decide] at hR2
  have R0 := v.sR.2
  have bR : Bd 100 (P * S) := Bd.of (by omega) (by omega)
  have e1 := pieces_val (n := n + 198) v (N := N) (bE.up (by decide))
  obtain ⟨o1, e2, f1⟩ := fd_val (n := n + 196) v E1 N1 g1 (bE.up (by decide)) (bg.up (by decide)) (bR.up (by decide)) (f := f)
  obtain ⟨o2, e3, f2⟩ := fc_val (n := n + 196) v E1 N1 g1 (bE.up (by decide)) (bg.up (by decide)) (bR.up (by decide)) (f := f)
  have e4 := first_val (n := n) v E N false hR g1 (bf.up (by decide)) (bg.up (by decide)) (fin_dark v f1)
  have e5 := first_val (n := n) v E N true hR g1 (bf.up (by decide)) (bg.up (by decide)) (fin_clear f2)
  refine wc_runL (n := n + 201) (P := fun z => ∃ s', z = .ok (.bool true) (some (.list s')) ∧ SrcOk (C + 2) s') k_right rfl ?_
  show WS (evB (calN tbl (n + 201)) true c__law_right [some (.list s, true), some (dsp P S L d, false), some (cam E N, false), some (.int f, false), some (.int g, false), none, none, none]) _
  unfold c__law_right
  walk_at "w"
  refine we_ret e1 ?_
  walk_at "w"
  refine we_ret e2 ?_
  walk_at "w"
  refine we_ret e4 ?_
  walk_at "w"
  refine we_ret e3 ?_
  walk_at "w"
  refine we_ret e5 ?_
  walk_at "w"
  refine ws_fr (fun _ ρ => ∃ s' o6 o7, ρ = [some (.list s', true), some (dsp P S L d, false), some (cam E N, false), some (.int f, false), some (.int g, false), some (.list ((pcsL P S L E N).map rowD), false), o6, o7] ∧ SrcOk (C + 2) s') ?_
  walk_at "w"
  walk_at "d"
  intro r1 s1 a1 b1 h1
  walk_at "w"
  walk_at "d"
  intro r2 s2 a2 b2 h2
  walk_at "w"
  refine ⟨_, rfl, ⟨s2, _, _, rfl, h2⟩, ?_, ?_⟩
  · rintro k x ρ hx ⟨s', o6, o7, rfl, hs'⟩
    obtain ⟨M, rfl, bM⟩ : ∃ M : Nat, x = .int (M : Nat) ∧ Bd 290 (M : Int) := by
      obtain ⟨M1, hM1⟩ := Int.eq_ofNat_of_zero_le a1
      obtain ⟨M2, hM2⟩ := Int.eq_ofNat_of_zero_le a2
      have := List.mem_of_getElem? hx
      simp only [List.mem_cons, List.not_mem_nil, or_false] at this
      rcases this with rfl | rfl | rfl | rfl
      · exact ⟨0, rfl, Bd.lit (by decide)⟩
      · exact ⟨100000000000000000000000000000, rfl, Bd.lit (by decide)⟩
      · exact ⟨M1, by rw [hM1], by rw [← hM1]; exact (Bd.of (k := 100) (by omega) (by omega)).up (by decide)⟩
      · exact ⟨M2, by rw [hM2], by rw [← hM2]; exact (Bd.of (k := 100) (by omega) (by omega)).up (by decide)⟩
    have e6 := counted_val (n := n + 1) v E N false hR g1 (bf.up (by decide)) (bg.up (by decide)) (bM.up (by decide))
    have e7 := cd_val (n := n + 196) v E1 N1 g1 (bE.up (by decide)) (bf.up (by decide)) (bg.up (by decide)) (bM.up (by decide)) (bR.up (by decide))
    rw [dark_cnt v] at e7
    have rq : Rq (.int (cB P S L E N false f g M)) 303 0 := by
      have := cB_le P S L E N false f g M
      exact rq_int (n := 300) ((bM.between (by omega) (by omega)).up (by decide)) (by decide)
    walk_at "w"
    refine we_ret e6 ?_
    walk_at "w"
    refine we_ret e7 ?_
    walk_at "w"
    refine xr_repr rq (by decide) (by decide) ?_
    walk_at "w"
    refine xr_repr rq (by decide) (by decide) ?_
    walk_at "w"
    exact ⟨s', _, _, rfl, hs'⟩
  · rintro ρ ⟨s', o6, o7, rfl, hs'⟩
    walk_at "w"
    exact ⟨s', rfl, hs'⟩
end K20

set_option Elab.async false
set_option linter.all false
set_option maxRecDepth 100000
set_option maxHeartbeats 4000000
namespace K20
set_option exponentiation.threshold 5000
open PySem PySem.Spec PyProof.Rows L2 PySem.W Ev
local macro_rules | `(tactic| walk_at "set") => `(tactic| (repeat (with_reducible refine' set_s ?_)); exact set_z)
local macro_rules | `(tactic| walk_at "bd") => `(tactic| first
  | assumption
  | exact Bd.lit (k := 400) (by decide +kernel)
  | ((with_reducible refine' Bd.add ?b1 ?b2); (case b1 => walk_at "bd"); (case b2 => walk_at "bd"))
  | ((with_reducible refine' Bd.sub ?b1 ?b2); (case b1 => walk_at "bd"); (case b2 => walk_at "bd"))
  | ((with_reducible refine' Bd.mul ?b1 ?b2); (case b1 => walk_at "bd"); (case b2 => walk_at "bd"))
  | ((with_reducible refine' Bd.neg ?b1); (case b1 => walk_at "bd"))
  | ((with_reducible refine' Bd.pow3 ?b1); (case b1 => walk_at "bd"))
  | ((with_reducible refine' Bd.pow2 ?b1); (case b1 => walk_at "bd"))
  | ((with_reducible refine' Bd.modP ?m1 ?m2); (case m1 => walk_at "bd"); (case m2 => first | decide | omega))
  | ((with_reducible refine' Bd.div ?m1 ?m2); (case m1 => walk_at "bd"); (case m2 => first | decide | omega)))
local macro_rules | `(tactic| walk_at "mul") => `(tactic| first
  | exact mulS1 (by decide) | exact mulS2 (by decide)
  | exact mulS1 (by assumption) | exact mulS2 (by assumption)
  | (refine' mulB ?m1 ?m2 ?m3 ?m4; (case m1 => walk_at "bd"); (case m2 => walk_at "bd"); (case m3 => decide); (case m4 => decide)))
local macro_rules | `(tactic| walk_at "big") => `(tactic| first
  | assumption
  | decide
  | (refine' Bd.big ?m1 ?m2; (case m1 => walk_at "bd"); (case m2 => decide)))
local macro_rules | `(tactic| walk_at "e") => `(tactic| first
  | ((with_reducible refine' we_var ?w1 ?_); (case w1 => exact rfl))
  | ((with_reducible refine' we_varO ?w1 ?w2 ?_); (case w1 => exact rfl); (case w2 => exact rfl))
  | with_reducible refine' we_cst ?_
  | with_reducible refine' we_gcn ?_
  | with_reducible refine' we_bin ?_
  | with_reducible refine' we_cmp ?_
  | ((with_reducible refine' we_idv ?w1 ?_); (case w1 => exact rfl))
  | ((with_reducible refine' we_idvO ?w1 ?_); (case w1 => exact rfl))
  | with_reducible refine' we_call ?_
  | ((with_reducible refine' we_cio ?w1 ?_); (case w1 => exact rfl))
  | with_reducible refine' we_blt ?_
  | with_reducible refine' we_nil ?_
  | with_reducible refine' we_cons ?_
  | ((with_reducible refine' wn_e ?w1 ?_); (case w1 => walk_at "set"))
  | ((with_reducible refine' wn_a ?w1 ?_); (case w1 => walk_at "set"))
  | ((with_reducible refine' wn_p ?w1 ?_); (case w1 => walk_at "set"))
  | ((with_reducible refine' wn_o ?w1 ?_); (case w1 => walk_at "set"))
  | with_reducible refine' we_tup ?_
  | with_reducible refine' we_lst ?_
  | with_reducible refine' we_idx ?_
  | with_reducible refine' we_not ?_
  | with_reducible refine' we_neg ?_
  | with_reducible refine' we_chn ?_
  | with_reducible refine' we_ite ?_
  | with_reducible refine' we_isi ?_
  | with_reducible refine' we_slc ?_
  | with_reducible refine' we_rev ?_
  | with_reducible refine' we_lr1 ?_
  | with_reducible refine' we_lr2 ?_
  | with_reducible refine' we_mnd ?_
  | with_reducible refine' we_gcd ?_
  | with_reducible refine' we_srs ?_
  | with_reducible refine' we_mth ?_
  | with_reducible refine' we_dct ?_
  | with_reducible refine' we_comp ?_
  | ((with_reducible refine' we_rpo ?w1 ?_); (case w1 => exact rfl))
  | with_reducible refine' evO_none ?_
  | with_reducible refine' evO_some ?_
  | with_reducible refine' wo_lst ?_
  | with_reducible refine' wo_comp ?_
  | with_reducible refine' wo_list ?_
  | with_reducible refine' wo_srt ?_
  | with_reducible refine' wo_ite ?_
  | with_reducible refine' wo_call ?_
  | ((with_reducible refine' wo_cio ?w1 ?_); (case w1 => exact rfl))
  | with_reducible refine' wp_nil ?_
  | with_reducible refine' wp_own ?_
  | with_reducible refine' wp_ev ?_)
local macro_rules | `(tactic| walk_at "x") => `(tactic| first
  | with_reducible refine' ex_add ?_
  | ((with_reducible refine' ex_cat ?w1 ?_); (case w1 => first | (simp only [List.length_append, List.length_cons, List.length_nil]; omega)))
  | with_reducible refine' ex_sub ?_
  | with_reducible refine' ex_augA ?_
  | with_reducible refine' ex_augS ?_
  | ((with_reducible refine' ex_mul ?w1 ?_); (case w1 => walk_at "mul"))
  | ((with_reducible refine' ex_mod ?w1 ?_); (case w1 => first | decide | omega))
  | ((with_reducible refine' ex_fdiv ?w1 ?w2 ?_); (case w1 => first | decide | omega); (case w2 => walk_at "big"))
  | with_reducible refine' xo_tru ?_
  | with_reducible refine' xo_bool ?_
  | with_reducible refine' xo_int ?_
  | ((with_reducible refine' xo_at ?w1 ?_); (case w1 => exact rfl))
  | ((with_reducible refine' xo_atL ?w1 ?_); (case w1 => exact rfl))
  | ((with_reducible refine' xo_ix ?w1 ?_); (case w1 => exact rfl))
  | ((with_reducible refine' xo_tg ?w1 ?_); (case w1 => exact rfl))
  | ((with_reducible refine' xo_pa ?w1 ?_); (case w1 => exact rfl))
  | ((with_reducible refine' xo_sub0 ?w1 ?w2 ?_); (case w1 => exact rfl); (case w2 => first | decide | omega))
  | ((with_reducible refine' xo_sub1 ?w1 ?w2 ?_); (case w1 => exact rfl); (case w2 => first | decide | omega))
  | ((with_reducible refine' xo_sub2 ?w1 ?w2 ?_); (case w1 => exact rfl); (case w2 => first | decide | omega))
  | ((with_reducible refine' xo_sub ?w1 ?w2 ?_); (case w1 => exact rfl); (case w2 => exact rfl))
  | ((with_reducible refine' xo_app ?w1 ?w2 ?_); (case w1 => exact rfl); (case w2 => first | decide | (simp only [List.length_append, List.length_cons, List.length_nil]; omega)))
  | with_reducible refine' xb_int ?_
  | with_reducible refine' xb_max ?_
  | with_reducible refine' xb_min ?_
  | with_reducible refine' xb_abs ?_
  | with_reducible refine' xb_len ?_
  | with_reducible refine' xb_lenT ?_
  | with_reducible refine' xn_neg ?_
  | ((with_reducible refine' xb_divmod ?w1 ?w2 ?_); (case w1 => first | decide | omega); (case w2 => walk_at "big"))
  | ((with_reducible refine' xl ?w1 ?_); (case w1 => first | (simp only [List.length_append, List.length_cons, List.length_nil]; omega)))
  | ((with_reducible refine' xl' ?w1 ?_); (case w1 => first | (simp only [List.length_append, List.length_cons, List.length_nil]; omega)))
  | with_reducible refine' x_rr ?_
  | with_reducible refine' xi_int ?_
  | with_reducible refine' xi_bool ?_
  | ((with_reducible refine' nt_pos ?_))
  | ((with_reducible refine' nt_neg ?_))
  | ((with_reducible refine' tf_pos ?_))
  | ((with_reducible refine' tf_neg ?_))
  | ((with_reducible refine' dec_pos ?w1 ?_); (case w1 => first | with_reducible rfl | assumption | omega))
  | ((with_reducible refine' dec_neg ?w1 ?_); (case w1 => first | with_reducible rfl | assumption | omega))
  | ((with_reducible refine' ndec_pos ?w1 ?_); (case w1 => first | with_reducible rfl | assumption | omega))
  | ((with_reducible refine' ndec_neg ?w1 ?_); (case w1 => first | with_reducible rfl | assumption | omega))
  | with_reducible refine' ex_lt ?_
  | with_reducible refine' ex_le ?_
  | with_reducible refine' ex_gt ?_
  | with_reducible refine' ex_ge ?_
  | with_reducible refine' ex_eq ?_
  | with_reducible refine' ex_ne ?_
  | with_reducible refine' ex_eqS ?_
  | with_reducible refine' ex_neS ?_
  | ((with_reducible refine' ex_reprI ?w1 ?_); (case w1 => first | (refine' Bd.up ?m1 ?m2); (case m1 => walk_at "bd"); (case m2 => decide)))
  | with_reducible refine' ex_reprB ?_
  | ((with_reducible refine' xq3 ?w1 ?_); (case w1 => walk_at "big"))
  | ((with_reducible refine' xq2 ?w1 ?_); (case w1 => walk_at "big"))
  | first | with_reducible refine' xt2 ?_ | with_reducible refine' xt3 ?_ | with_reducible refine' xt4 ?_ | with_reducible refine' xt5 ?_ | with_reducible refine' xt6 ?_ | with_reducible refine' xt7 ?_ | with_reducible refine' xt8 ?_ | with_reducible refine' xt9 ?_ | with_reducible refine' xt10 ?_ | with_reducible refine' xt12 ?_ | with_reducible refine' xt16 ?_ | with_reducible refine' xt17 ?_ | with_reducible refine' xt18 ?_ | with_reducible refine' xt19 ?_ | with_reducible refine' xt20 ?_ | with_reducible refine' xt21 ?_ | with_reducible refine' xt22 ?_ | with_reducible refine' xt23 ?_ | with_reducible refine' xt24 ?_ | with_reducible refine' xt25 ?_ | with_reducible refine' xt26 ?_ | with_reducible refine' xt27 ?_ | with_reducible refine' xt28 ?_ | with_reducible refine' xt29 ?_ | with_reducible refine' xt30 ?_ | with_reducible refine' xt38 ?_ | with_reducible refine' xt41 ?_ | with_reducible refine' xt44 ?_ | with_reducible refine' xt46 ?_ | with_reducible refine' xt50 ?_ | with_reducible refine' xt60 ?_
  | with_reducible refine' xp1 ?_ | with_reducible refine' xp2 ?_ | with_reducible refine' xp21 ?_ | with_reducible refine' xp3 ?_ | with_reducible refine' xp321 ?_
  | with_reducible refine' xp4 ?_ | with_reducible refine' xp4321 ?_ | with_reducible refine' xp5 ?_ | with_reducible refine' xp54321 ?_ | with_reducible refine' xp6 ?_ | with_reducible refine' xp0 ?_)
local macro_rules | `(tactic| walk_at "s") => `(tactic| first
  | ((with_reducible refine' wn_s ?w1 ?_); (case w1 => walk_at "set"))
  | ((with_reducible refine' ws_asg ?w1 ?_); (case w1 => exact rfl))
  | ((with_reducible refine' ws_own ?w1 ?_); (case w1 => exact rfl))
  | with_reducible refine' ws_par ?_
  | ((with_reducible refine' ws_aug ?w1 ?w2 ?_); (case w1 => exact rfl); (case w2 => exact rfl))
  | with_reducible refine' ws_unp ?_
  | ((with_reducible refine' ws_sub ?w1 ?_); (case w1 => exact rfl))
  | ((with_reducible refine' ws_app ?w1 ?_); (case w1 => exact rfl))
  | with_reducible refine' ws_exp ?_
  | with_reducible refine' ws_pas ?_
  | with_reducible refine' ws_iff ?_
  | with_reducible refine' ws_ret ?_
  | with_reducible refine' ws_retO ?_
  | with_reducible refine' ws_retN ?_
  | ((with_reducible refine' ws_retV ?w1 ?_); (case w1 => exact rfl))
  | ((with_reducible refine' ws_retVO ?w1 ?w2 ?_); (case w1 => exact rfl); (case w2 => exact rfl))
  | with_reducible refine' ws_nilq ?_
  | with_reducible refine' ws_nill ?_
  | with_reducible refine' ws_nil ?_)
local macro_rules | `(tactic| walk_at "w") => `(tactic| (repeat' (first | walk_at "e" | walk_at "s" | walk_at "x")))
local macro_rules | `(tactic| walk_at "pk") => `(tactic| (repeat' (first | exact fun _ hx => absurd hx (List.not_mem_nil) | refine List.forall_mem_cons.2 ⟨?_, ?_⟩)))
local macro_rules | `(tactic| walk_at "bdu") => `(tactic| (refine' Bd.up ?m1 ?m2; (case m1 => walk_at "bd"); (case m2 => decide)))
local macro_rules | `(tactic| walk_at "len") => `(tactic| (simp only [List.length_cons, List.length_nil]; omega))
local macro_rules | `(tactic| walk_at "d") => `(tactic| ((with_reducible refine' we_tap ?c0 ?c1 ?c2 ?c3 ?_); (case c0 => assumption); (case c1 => omega); (case c2 => first | decide | omega); (case c3 => walk_at "bdu")))
variable {n : Nat} {P S L : Int} {d : Str}
def tB : List CS := [.asg 2 (.cio "_law_panel" 4 [(.idx (.lst [(.cst (PyData.int 8)), (.cst (PyData.int 3)), (.cst (PyData.int 1)), (.cst (PyData.int 5)), (.cst (PyData.int 8))]) (.var 5)), (.idx (.lst [(.bin .Pow (.cst (PyData.int 10)) (.cst (PyData.int 27))), (.bin .Pow (.cst (PyData.int 10)) (.cst (PyData.int 6)))]) (.bin .Mod (.blt .int [(.var 5)]) (.cst (PyData.int 2))))]), .par [8, 3] [(false, (.bin .Mult (.idv 2 (.cst (PyData.int 0))) (.idv 2 (.cst (PyData.int 1))))), (false, (.cio "_law_more" 4 [(.var 2), (.cio "_law_lens" 4 [(.var 2)])]))], .asg 6 (.idx (.lst [(.cst (PyData.int 0)), (.bin .Sub (.cst (PyData.int 0)) (.cio "_law_tap" 4 [(.bin .Pow (.cst (PyData.int 10)) (.cst (PyData.int 29)))])), (.cio "_law_tap" 4 [(.bin .Pow (.cst (PyData.int 10)) (.cst (PyData.int 29)))])]) (.cio "_law_tap" 4 [(.cst (PyData.int 3))])), .own 7 (.lst [(.bin .Add (.var 8) (.cst (PyData.int 1))), (.idv 2 (.cst (PyData.int 1))), (.idv 2 (.cst (PyData.int 2))), (.bin .Add (.cst (PyData.int 1)) (.cio "_law_tap" 4 [(.bin .Pow (.cst (PyData.int 10)) (.cst (PyData.int 29)))])), (.bin .Add (.bin .FloorDiv (.var 8) (.cst (PyData.int 7))) (.cst (PyData.int 1))), (.bin .Sub (.var 8) (.cst (PyData.int 1))), (.var 8)]), .iff (.not (.cio "_law_right" 4 [(.var 2), (.var 3), (.var 6), (.blt .max [(.cst (PyData.int 1)), (.idv 7 (.cio "_law_tap" 4 [(.cst (PyData.int 7))]))])])) [.ret (.cst (PyData.bool false))] []]
def tB2 : List CS := [.own 7 (.lst [(.bin .Add (.var 8) (.cst (PyData.int 1))), (.idv 2 (.cst (PyData.int 1))), (.idv 2 (.cst (PyData.int 2))), (.bin .Add (.cst (PyData.int 1)) (.cio "_law_tap" 4 [(.bin .Pow (.cst (PyData.int 10)) (.cst (PyData.int 29)))])), (.bin .Add (.bin .FloorDiv (.var 8) (.cst (PyData.int 7))) (.cst (PyData.int 1))), (.bin .Sub (.var 8) (.cst (PyData.int 1))), (.var 8)]), .iff (.not (.cio "_law_right" 4 [(.var 2), (.var 3), (.var 6), (.blt .max [(.cst (PyData.int 1)), (.idv 7 (.cio "_law_tap" 4 [(.cst (PyData.int 7))]))])])) [.ret (.cst (PyData.bool false))] []]
set_option maxHeartbeats 20000000 in
theorem turn2_val (v : Val P S L d) (hS : S ≤ 1000000000000000000000000000) {E N : Int} (E3 : 1 ≤ E) (bE : Bd 320 E) (N3 : 1 ≤ N) {f : Int} (bf : Bd 290 f) {ns k : D} {C j : Nat} (hC : C + 100 < 2 ^ 60) {s3 : List D} (h3 : SrcOk C s3) {o7 : Option (D × Bool)} {Q : SR → Prop} (hq : ∀ s' o6 o7, SrcOk (C + 8) s' → Q (.nx [some (ns, false), some (k, false), some (dsp P S L d, false), some (cam E N, false), some (.list s', true), some (.int (j : Nat), false), o6, o7, some (.int (P * S), false)])) :
    WS (evB (calN tbl (n + 202)) false tB2 [some (ns, false), some (k, false), some (dsp P S L d, false), some (cam E N, false), some (.list s3, true), some (.int (j : Nat), false), some (.int f, false), o7, some (.int (P * S), false)]) Q := by
  unfold tB2
  have R0 := v.sR.2
  have p8 := v.p8
  have hR2 : P * S ≤ 8000000000000000000000000000 := by
    have a := Int.mul_le_mul_of_nonneg_right p8 (show 0 ≤ S by have := v.s1; omega)
    omega
  have hR : P * S < 2 ^ 96 := by
    rw [show (2 : Int) ^ 96 = 79228162514264337593543950336 by decide]
    omega
  have bR : Bd 100 (P * S) := Bd.of (by omega) (by omega)
  have s1' := v.s1
  have l1' := v.l1
  have l2' := v.l2
  have bS := v.sb
  have bL := v.lb
  walk_at "w"
  walk_at "d"
  intro r4 s7 a4 b4 h7
  walk_at "w"
  walk_at "d"
  intro r5 s8 a5 b5 h8
  walk_at "w"
  refine ex_idx (fun x => ∃ z, x = .int z ∧ Bd 290 z) a5 (by walk_at "len") ?_ ?_
  · walk_at "pk"
    · exact ⟨_, rfl, (Bd.of (k := 100) (by omega) (by omega)).up (by decide)⟩
    · exact ⟨_, rfl, (Bd.of (k := 100) (by omega) (by omega)).up (by decide)⟩
    · exact ⟨_, rfl, (Bd.of (k := 100) (by omega) (by omega)).up (by decide)⟩
    · exact ⟨_, rfl, (Bd.of (k := 100) (by omega) (by omega)).up (by decide)⟩
    · exact ⟨_, rfl, (Bd.of (k := 100) (by omega) (by omega)).up (by decide)⟩
    · exact ⟨_, rfl, (Bd.of (k := 100) (by omega) (by omega)).up (by decide)⟩
    · exact ⟨_, rfl, bR.up (by decide)⟩
  rintro y ⟨g0, rfl, bg0⟩
  walk_at "w"
  obtain ⟨g, hg⟩ : ∃ g : Int, g = (if g0 > 1 then g0 else 1) := ⟨_, rfl⟩
  rw [← hg]
  have g1 : 1 ≤ g := by rw [hg]; split <;> omega
  have bg : Bd 290 g := by
    rw [hg]
    split
    · exact bg0
    · exact Bd.lit (by decide)
  walk_at "w"
  obtain ⟨s9, e9, h9⟩ := right_val (n := n) v (by omega) h8 hR E3 bE N3 bf g1 bg
  refine we_cioR e9 ?_
  walk_at "w"
  exact hq s9 _ _ (src_up (by omega) h9)
set_option maxHeartbeats 20000000 in
/-- one turn of the law -/
theorem turn_val {ns k : D} {C j : Nat} (hC : C + 200 < 2 ^ 60) (hj : j < 5) {s : List D} (hs : SrcOk C s) {o2 o3 o6 o7 o8 : Option (D × Bool)} {Q : SR → Prop} (hq : ∀ s' o2 o3 o6 o7 o8, SrcOk (C + 100) s' → Q (.nx [some (ns, false), some (k, false), o2, o3, some (.list s', true), some (.int (j : Nat), false), o6, o7, o8])) :
    WS (evB (calN tbl (n + 202)) false tB [some (ns, false), some (k, false), o2, o3, some (.list s, true), some (.int (j : Nat), false), o6, o7, o8]) Q := by
  unfold tB
  walk_at "w"
  refine ex_idx (fun x => ∃ z, x = .int z ∧ 1 ≤ z ∧ z ≤ 8) (by omega) (by walk_at "len") ?_ ?_
  · walk_at "pk"
    · exact ⟨_, rfl, by omega, by omega⟩
    · exact ⟨_, rfl, by omega, by omega⟩
    · exact ⟨_, rfl, by omega, by omega⟩
    · exact ⟨_, rfl, by omega, by omega⟩
    · exact ⟨_, rfl, by omega, by omega⟩
  rintro y ⟨top, rfl, t1, t2⟩
  walk_at "w"
  refine ex_idx (fun x => ∃ z, x = .int z ∧ 1 ≤ z ∧ z ≤ 1000000000000000000000000000) (by omega) (by walk_at "len") ?_ ?_
  · walk_at "pk"
    · exact ⟨_, rfl, by omega, by omega⟩
    · exact ⟨_, rfl, by omega, by omega⟩
  rintro y ⟨wide, rfl, w1, w2⟩
  walk_at "w"
  obtain ⟨P, S, L, d, s1, e2, v, hP, hS, h1⟩ := panel_val (n := n + 200) k_tap k_panel (by omega) hs t1 t2 w1 (by rw [show (10 : Int) ^ 28 = 10000000000000000000000000000 by decide]; omega)
  refine we_cioR e2 ?_
  have R0 := v.sR.2
  have p8 := v.p8
  have hR2 : P * S ≤ 8000000000000000000000000000 := by
    have a := Int.mul_le_mul_of_nonneg_right p8 (show 0 ≤ S by have := v.s1; omega)
    omega
  have bR : Bd 100 (P * S) := Bd.of (by omega) (by omega)
  have bP := v.pb
  have bS := v.sb
  obtain ⟨E0, N0, s2, e3, E1, E2, N1, _, _, h2⟩ := lens_val (n := n + 200) k_tap k_lens (by omega) h1 v
  obtain ⟨E, N, s3, e4, E3, bE, N3, h3⟩ := more_val (n := n + 200) v (by omega) h2 E1 ((Bd.of (k := 100) (by omega) (by omega)).up (by decide)) N1 bR
  walk_at "w"
  refine we_cioR e3 ?_
  walk_at "w"
  refine we_cioR e4 ?_
  walk_at "w"
  walk_at "d"
  intro r2 s5 a2 b2 h5
  walk_at "w"
  walk_at "d"
  intro r3 s6 a3 b3 h6
  walk_at "w"
  walk_at "d"
  intro r1 s4 a1 b1 h4
  walk_at "w"
  refine ex_idx (fun x => ∃ z, x = .int z ∧ Bd 290 z) a1 (by walk_at "len") ?_ ?_
  · walk_at "pk"
    · exact ⟨_, rfl, Bd.lit (by decide)⟩
    · exact ⟨_, rfl, (Bd.of (k := 100) (by omega) (by omega)).up (by decide)⟩
    · exact ⟨_, rfl, (Bd.of (k := 100) (by omega) (by omega)).up (by decide)⟩
  rintro y ⟨f, rfl, bf⟩
  show WS (evB (calN tbl (n + 202)) false tB2 [some (ns, false), some (k, false), some (dsp P S L d, false), some (cam E N, false), some (.list s4, true), some (.int (j : Nat), false), some (.int f, false), _, some (.int (P * S), false)]) Q
  refine turn2_val v (by omega) E3 bE N3 bf (by omega) h4 fun s' o6 o7 hs' => ?_
  exact hq s' _ _ _ _ _ (src_up (by omega) hs')
def level : Nat := 203
theorem law_val (ns : List Int) (h : ns.length ≤ 63) : calN tbl level "law" [.list (ns.map .int)] = .ok (.bool true) none := by
  refine wc_run (n := 202) (P := fun z => z = .ok (.bool true) none) k_law rfl ?_
  show WS (evB (calN tbl 202) false c_law [some (.list (ns.map .int), false), none, none, none, none, none, none, none, none]) _
  unfold c_law
  refine ws_fr (fun _ ρ => ∃ o1 o2 o3 o4 o5 o6 o7 o8, ρ = [some (.list (ns.map .int), false), o1, o2, o3, o4, o5, o6, o7, o8]) ?_
  walk_at "w"
  refine ⟨_, rfl, ⟨_, _, _, _, _, _, _, _, rfl⟩, ?_, ?_⟩
  · rintro k x ρ hx ⟨o1, o2, o3, o4, o5, o6, o7, o8, rfl⟩
    obtain ⟨rfl, hk⟩ := rng_at' hx
    rw [List.length_map] at hk
    have hk' : k ≤ 100 := by split at hk <;> split at hk <;> omega
    obtain ⟨s, e1, hs⟩ := tank_lk (n := 201) k_tank ns hk'
    walk_at "w"
    refine ⟨_, e1, ?_⟩
    walk_at "w"
    refine ws_fr (fun j ρ => ∃ s o2 o3 o5 o6 o7 o8, ρ = [some (.list (ns.map .int), false), some (.int (k : Nat), false), o2, o3, some (.list s, true), o5, o6, o7, o8] ∧ SrcOk (100 * j) s) ?_
    walk_at "w"
    refine ⟨_, rfl, ⟨s, _, _, _, _, _, _, rfl, hs⟩, ?_, ?_⟩
    · clear hs e1
      rintro j x ρ hx ⟨s, o2, o3, o5, o6, o7, o8, rfl, hs⟩
      obtain ⟨rfl, hj⟩ := rng_at' hx
      refine ⟨_, rfl, ?_⟩
      refine turn_val (n := 0) (by omega) (by omega) hs fun s' o2 o3 o6 o7 o8 hs' => ?_
      exact ⟨s', _, _, _, _, _, _, rfl, hs'⟩
    · rintro ρ ⟨s, o2, o3, o5, o6, o7, o8, rfl, hs⟩
      walk_at "w"
      exact ⟨_, _, _, _, _, _, _, _, rfl⟩
  · rintro ρ ⟨o1, o2, o3, o4, o5, o6, o7, o8, rfl⟩
    show outR (evB (calN tbl 202) false _ _) = _
    kernel_rfl
end K20

open PySem PySem.W PyProof.Rows
set_option maxRecDepth 100000 in
set_option maxHeartbeats 0 in
theorem PySem.Challenge.cw_litdigits_k20_dark_pictures_of_great_num_holds : PySem.Challenge.rw_litdigits_k20_dark_pictures_of_great_num.Holds := by
  w_on; o_law; k_head; (case hw => w_witness2)
  k_fill
  refine Ev.row_of (l := PySem.Challenge.rw_litdigits_k20_dark_pictures_of_great_num) (n := 63) (k := K20.level) (x := "script") rfl (by decide) rfl ⟨rfl, by decide, by decide⟩ (fun w h Y => PySem.W.kIn_of Y) ?F
  case F =>
    intro w mg fa h KX G hmg
    refine' Ev.law_F (e := K20.d_law) (Ev.tab_go (fns := K20.fns) (gvs := K20.gvs) (tbl := K20.tbl) (sts := K20.sts) rfl K20.tx KX G ?B ?bl ?gv) rfl rfl hmg K20.law_val
    case B =>
      refine' And.intro (Ev.inK_mk ?a0 ?l0 ?c0 ?k0) (And.intro (Ev.inK_mk ?a1 ?l1 ?c1 ?k1) (And.intro (Ev.inK_mk ?a2 ?l2 ?c2 ?k2) (And.intro (Ev.inK_mk ?a3 ?l3 ?c3 ?k3) (And.intro (Ev.inK_mk ?a4 ?l4 ?c4 ?k4) (And.intro (Ev.inK_mk ?a5 ?l5 ?c5 ?k5) (And.intro (Ev.inK_mk ?a6 ?l6 ?c6 ?k6) (And.intro (Ev.inK_mk ?a7 ?l7 ?c7 ?k7) (And.intro (Ev.inK_mk ?a8 ?l8 ?c8 ?k8) (And.intro (Ev.inK_mk ?a9 ?l9 ?c9 ?k9) (And.intro (Ev.inK_mk ?a10 ?l10 ?c10 ?k10) (And.intro (Ev.inK_mk ?a11 ?l11 ?c11 ?k11) (And.intro (Ev.inK_mk ?a12 ?l12 ?c12 ?k12) (And.intro (Ev.inK_mk ?a13 ?l13 ?c13 ?k13) (And.intro (Ev.inK_mk ?a14 ?l14 ?c14 ?k14) (And.intro (Ev.inK_mk ?a15 ?l15 ?c15 ?k15) (And.intro (Ev.inK_mk ?a16 ?l16 ?c16 ?k16) (And.intro (Ev.inK_mk ?a17 ?l17 ?c17 ?k17) (And.intro (Ev.inK_mk ?a18 ?l18 ?c18 ?k18) (And.intro (Ev.inK_mk ?a19 ?l19 ?c19 ?k19) (And.intro (Ev.inK_mk ?a20 ?l20 ?c20 ?k20) (And.intro (Ev.inK_mk ?a21 ?l21 ?c21 ?k21) (And.intro (Ev.inK_mk ?a22 ?l22 ?c22 ?k22) (And.intro (Ev.inK_mk ?a23 ?l23 ?c23 ?k23) (And.intro (Ev.inK_mk ?a24 ?l24 ?c24 ?k24) (And.intro (Ev.inK_mk ?a25 ?l25 ?c25 ?k25) (And.intro (Ev.inK_mk ?a26 ?l26 ?c26 ?k26) (And.intro (Ev.inK_mk ?a27 ?l27 ?c27 ?k27) (And.intro (Ev.inK_mk ?a28 ?l28 ?c28 ?k28) (And.intro (Ev.inK_mk ?a29 ?l29 ?c29 ?k29) (And.intro (Ev.inK_mk ?a30 ?l30 ?c30 ?k30) (And.intro (Ev.inK_mk ?a31 ?l31 ?c31 ?k31) (And.intro (Ev.inK_mk ?a32 ?l32 ?c32 ?k32) (And.intro (Ev.inK_mk ?a33 ?l33 ?c33 ?k33) (True.intro))))))))))))))))))))))))))))))))))
      (case a0 => k_is)
      (case l0 => k_is)
      (case c0 => k_is)
      (case k0 => k_is)
      (case a1 => k_is)
      (case l1 => k_is)
      (case c1 => k_is)
      (case k1 => k_is)
      (case a2 => k_is)
      (case l2 => k_is)
      (case c2 => k_is)
      (case k2 => k_is)
      (case a3 => k_is)
      (case l3 => k_is)
      (case c3 => k_is)
      (case k3 => k_is)
      (case a4 => k_is)
      (case l4 => k_is)
      (case c4 => k_is)
      (case k4 => k_is)
      (case a5 => k_is)
      (case l5 => k_is)
      (case c5 => k_is)
      (case k5 => k_is)
      (case a6 => k_is)
      (case l6 => k_is)
      (case c6 => k_is)
      (case k6 => k_is)
      (case a7 => k_is)
      (case l7 => k_is)
      (case c7 => k_is)
      (case k7 => k_is)
      (case a8 => k_is)
      (case l8 => k_is)
      (case c8 => k_is)
      (case k8 => k_is)
      (case a9 => k_is)
      (case l9 => k_is)
      (case c9 => k_is)
      (case k9 => k_is)
      (case a10 => k_is)
      (case l10 => k_is)
      (case c10 => k_is)
      (case k10 => k_is)
      (case a11 => k_is)
      (case l11 => k_is)
      (case c11 => k_is)
      (case k11 => k_is)
      (case a12 => k_is)
      (case l12 => k_is)
      (case c12 => k_is)
      (case k12 => k_is)
      (case a13 => k_is)
      (case l13 => k_is)
      (case c13 => k_is)
      (case k13 => k_is)
      (case a14 => k_is)
      (case l14 => k_is)
      (case c14 => k_is)
      (case k14 => k_is)
      (case a15 => k_is)
      (case l15 => k_is)
      (case c15 => k_is)
      (case k15 => k_is)
      (case a16 => k_is)
      (case l16 => k_is)
      (case c16 => k_is)
      (case k16 => k_is)
      (case a17 => k_is)
      (case l17 => k_is)
      (case c17 => k_is)
      (case k17 => k_is)
      (case a18 => k_is)
      (case l18 => k_is)
      (case c18 => k_is)
      (case k18 => k_is)
      (case a19 => k_is)
      (case l19 => k_is)
      (case c19 => k_is)
      (case k19 => k_is)
      (case a20 => k_is)
      (case l20 => k_is)
      (case c20 => k_is)
      (case k20 => k_is)
      (case a21 => k_is)
      (case l21 => k_is)
      (case c21 => k_is)
      (case k21 => k_is)
      (case a22 => k_is)
      (case l22 => k_is)
      (case c22 => k_is)
      (case k22 => k_is)
      (case a23 => k_is)
      (case l23 => k_is)
      (case c23 => k_is)
      (case k23 => k_is)
      (case a24 => k_is)
      (case l24 => k_is)
      (case c24 => k_is)
      (case k24 => k_is)
      (case a25 => k_is)
      (case l25 => k_is)
      (case c25 => k_is)
      (case k25 => k_is)
      (case a26 => k_is)
      (case l26 => k_is)
      (case c26 => k_is)
      (case k26 => k_is)
      (case a27 => k_is)
      (case l27 => k_is)
      (case c27 => k_is)
      (case k27 => k_is)
      (case a28 => k_is)
      (case l28 => k_is)
      (case c28 => k_is)
      (case k28 => k_is)
      (case a29 => k_is)
      (case l29 => k_is)
      (case c29 => k_is)
      (case k29 => k_is)
      (case a30 => k_is)
      (case l30 => k_is)
      (case c30 => k_is)
      (case k30 => k_is)
      (case a31 => k_is)
      (case l31 => k_is)
      (case c31 => k_is)
      (case k31 => k_is)
      (case a32 => k_is)
      (case l32 => k_is)
      (case c32 => k_is)
      (case k32 => k_is)
      (case a33 => k_is)
      (case l33 => k_is)
      (case c33 => k_is)
      (case k33 => k_is)
    case bl =>
      refine' And.intro (?b0) (And.intro (?b1) (And.intro (?b2) (And.intro (?b3) (And.intro (?b4) (And.intro (?b5) (And.intro (?b6) (And.intro (?b7) (And.intro (?b8) (And.intro (?b9) (And.intro (?b10) (And.intro (?b11) (And.intro (?b12) (And.intro (?b13) (And.intro (?b14) (And.intro (?b15) (And.intro (?b16) (And.intro (?b17) (And.intro (?b18) (And.intro (?b19) (And.intro (?b20) (True.intro)))))))))))))))))))))
      (case b0 => k_is)
      (case b1 => k_is)
      (case b2 => k_is)
      (case b3 => k_is)
      (case b4 => k_is)
      (case b5 => k_is)
      (case b6 => k_is)
      (case b7 => k_is)
      (case b8 => k_is)
      (case b9 => k_is)
      (case b10 => k_is)
      (case b11 => k_is)
      (case b12 => k_is)
      (case b13 => k_is)
      (case b14 => k_is)
      (case b15 => k_is)
      (case b16 => k_is)
      (case b17 => k_is)
      (case b18 => k_is)
      (case b19 => k_is)
      (case b20 => k_is)
    case gv =>
      refine' And.intro (Ev.gv_of (Ev.gv_int ?evg0)) (And.intro (Ev.gv_of (Ev.gv_str ?evg1)) (And.intro (Ev.gv_of (Ev.gv_str ?evg2)) (True.intro)))
      (case evg0 => k_is)
      (case evg1 => k_is)
      (case evg2 => k_is)

