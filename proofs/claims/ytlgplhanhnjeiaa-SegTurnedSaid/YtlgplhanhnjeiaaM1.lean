/-
  Layer 2: cuts with bounds; places in a row that is turned round.
-/
import Derived.Test.YtlgplhanhnjeiaaS9
namespace Go.Proofs.Ytlgplhanhnjeiaa
open Go.RowKit Go.Tab Go.Sort

def okC (c : Cut) : Prop := 0 ≤ c.2.1 ∧ c.2.1 ≤ 33554432 ∧ 0 < c.2.2 ∧ c.2.2 ≤ 33554432
/-- A cut whose fraction is small. -/
abbrev CutB := {c : Cut // okC c}
instance : Inhabited CutB := ⟨⟨((0, 0), 0, 1), by unfold okC; decide⟩⟩
def encB (c : CutB) : List Value := encC c.1
theorem encB_len (c : CutB) : (encB c).length = 4 := rfl
theorem encB_one (c : CutB) : ∀ v ∈ encB c, v.oneCell' = true := encC_one c.1
def cmpB (p q : CutB) : Int := p.1.2.1 * q.1.2.2 - q.1.2.1 * p.1.2.2
theorem mul_small {x y : Int} (hx : 0 ≤ x ∧ x ≤ 33554432) (hy : 0 ≤ y ∧ y ≤ 33554432) : 0 ≤ x * y ∧ x * y ≤ 1125899906842624 :=
  ⟨Int.mul_nonneg hx.1 hy.1, Int.mul_le_mul hx.2 hy.2 hy.1 (by decide)⟩
theorem wrap_mid {n : Int} (h : -1125899906842624 ≤ n ∧ n ≤ 1125899906842624) : wrap64 n = n := by
  unfold wrap64; omega
theorem cmpB_eq (p q : CutB) : cmpC p.1 q.1 = cmpB p q := by
  obtain ⟨⟨_, pf, pw⟩, h1, h2, h3, h4⟩ := p
  obtain ⟨⟨_, qf, qw⟩, k1, k2, k3, k4⟩ := q
  unfold cmpC cmpB
  have h3' : 0 < pw := h3
  have k3' : 0 < qw := k3
  show wrap64 (wrap64 (pf * qw) - wrap64 (qf * pw)) = pf * qw - qf * pw
  have a := @mul_small pf qw ⟨h1, h2⟩ ⟨by omega, k4⟩
  have b := @mul_small qf pw ⟨k1, k2⟩ ⟨by omega, h4⟩
  rw [wrap_mid (n := pf * qw) (by omega), wrap_mid (n := qf * pw) (by omega), wrap_mid (by omega)]
abbrev ltB : CutB → CutB → Bool := ltOf cmpB
theorem ltB_iff (p q : CutB) : ltB p q = true ↔ p.1.2.1 * q.1.2.2 < q.1.2.1 * p.1.2.2 := by
  unfold ltB ltOf cmpB
  rw [decide_eq_true_iff]; omega
theorem ltB_not (p q : CutB) : ltB p q = false ↔ q.1.2.1 * p.1.2.2 ≤ p.1.2.1 * q.1.2.2 := by
  unfold ltB ltOf cmpB
  rw [decide_eq_false_iff_not]; omega
/-- p ≤ q ≤ r of fractions. -/
theorem frac_le {a x b y c z : Int} (hx : 0 < x) (hy : 0 < y) (hz : 0 < z) (h1 : a * y ≤ b * x) (h2 : b * z ≤ c * y) : a * z ≤ c * x := by
  have e1 := Int.mul_le_mul_of_nonneg_right h1 (Int.le_of_lt hz)
  have e2 := Int.mul_le_mul_of_nonneg_right h2 (Int.le_of_lt hx)
  have e3 : y * (a * z) ≤ y * (c * x) := by
    have r1 : y * (a * z) = a * y * z := by rw [Int.mul_comm y, Int.mul_assoc, Int.mul_comm z y, ← Int.mul_assoc]
    have r2 : y * (c * x) = c * y * x := by rw [← Int.mul_assoc, Int.mul_comm y c]
    have r3 : b * x * z = b * z * x := by rw [Int.mul_assoc, Int.mul_comm x z, ← Int.mul_assoc]
    omega
  exact Int.le_of_mul_le_mul_left e3 hy
theorem frac_lt {a x b y c z : Int} (hx : 0 < x) (hy : 0 < y) (hz : 0 < z) (h1 : a * y < b * x) (h2 : b * z ≤ c * y) : a * z < c * x := by
  have e1 := Int.mul_lt_mul_of_pos_right h1 hz
  have e2 := Int.mul_le_mul_of_nonneg_right h2 (Int.le_of_lt hx)
  have e3 : y * (a * z) < y * (c * x) := by
    have r1 : y * (a * z) = a * y * z := by rw [Int.mul_comm y, Int.mul_assoc, Int.mul_comm z y, ← Int.mul_assoc]
    have r2 : y * (c * x) = c * y * x := by rw [← Int.mul_assoc, Int.mul_comm y c]
    have r3 : b * x * z = b * z * x := by rw [Int.mul_assoc, Int.mul_comm x z, ← Int.mul_assoc]
    omega
  exact Int.lt_of_mul_lt_mul_left e3 (Int.le_of_lt hy)
theorem swoB : SWO ltB where
  irrefl x := by rw [ltB_not]; exact Int.le_refl _
  trans x y z h1 h2 := by
    rw [ltB_iff] at *
    exact frac_lt x.2.2.2.1 y.2.2.2.1 z.2.2.2.1 h1 (Int.le_of_lt h2)
  ntrans x y z h1 h2 := by
    rw [ltB_not] at *
    exact frac_le z.2.2.2.1 y.2.2.2.1 x.2.2.2.1 h2 h1

def rowB (d : Array CutB) : List Value := d.toList.flatMap encB
theorem rowB_ccells (d : Array CutB) : rowB d = ccells (d.toList.map (·.1)) := by
  unfold rowB ccells
  rw [List.flatMap_map]; rfl
/-- Where the element behind an exchange of two runs of n comes from. -/
def swI (a b n x : Nat) : Nat := if a ≤ x ∧ x < a + n then x - a + b else if b ≤ x ∧ x < b + n then x - b + a else x
/-- Where the element behind a turn of [a, m) and [m, b) comes from. -/
def rotI (a m b x : Nat) : Nat := if a ≤ x ∧ x < a + (b - m) then x - a + m else if a + (b - m) ≤ x ∧ x < b then x - (b - m) else x
theorem swI_zero (a b x : Nat) : swI a b 0 x = x := by unfold swI; split <;> (try split) <;> omega
theorem swI_lt {a b n x s : Nat} (h1 : a + n ≤ b) (h2 : b + n ≤ s) (hx : x < s) : swI a b n x < s := by unfold swI; split <;> (try split) <;> omega
theorem rotI_lt {a m b x s : Nat} (h1 : a ≤ m) (h2 : m ≤ b) (h3 : b ≤ s) (hx : x < s) : rotI a m b x < s := by unfold rotI; split <;> (try split) <;> omega
/-- One exchange more. -/
theorem swI_succ {a b n k x : Nat} (hk : k < n) (hab : a + n ≤ b) : swI a b (k + 1) x = if x = b + k then a + k else if x = a + k then b + k else swI a b k x := by
  unfold swI; repeat' split
  all_goals omega
/-- i > j: the first run's j go behind. -/
theorem rot_left {m i j x : Nat} (hij : j < i) (him : i ≤ m) : swI (m - i) m j (rotI (m - (i - j)) m (m + j) x) = rotI (m - i) m (m + j) x := by
  unfold swI rotI; repeat' split
  all_goals omega
theorem rot_right {m i j x : Nat} (hij : i < j) (him : i ≤ m) : swI (m - i) (m + j - i) i (rotI (m - i) m (m + (j - i)) x) = rotI (m - i) m (m + j) x := by
  unfold swI rotI; repeat' split
  all_goals omega
theorem rot_end {m i x : Nat} (him : i ≤ m) : swI (m - i) m i x = rotI (m - i) m (m + i) x := by
  unfold swI rotI; repeat' split
  all_goals omega

section
variable {w : World} {B : Nat} {T : TypeId} {g n cap : Nat} {d : Array CutB}
theorem ownB_cells (h : w.ownsRow B T 4 (.slice (some ⟨g, 0, none⟩) n cap) n (rowB d)) (hn : d.size = n) {i : Nat} (hi : i < n) :
    w.cell? ⟨g, i * 4, none⟩ = some (.int .i64 d[i]!.1.1.1) ∧ w.cell? ⟨g, i * 4 + 1, none⟩ = some (.int .i64 d[i]!.1.1.2) ∧ w.cell? ⟨g, i * 4 + 2, none⟩ = some (.int .i64 d[i]!.1.2.1) ∧ w.cell? ⟨g, i * 4 + 3, none⟩ = some (.int .i64 d[i]!.1.2.2) := by
  have hg := fun j (hj : j < 4) => flatMap_get encB_len (by omega) d.toList (i * 4 + j) (by simp; omega)
  have hd := fun j (hj : j < 4) => (show (i * 4 + j) / 4 = i by omega)
  have hm := fun j (hj : j < 4) => (show (i * 4 + j) % 4 = j by omega)
  have key := fun j (hj : j < 4) => (show w.cell? ⟨g, i * 4 + j, none⟩ = some ((encB d[i]!)[j]!) by
    have := (h.cellAt (i * 4 + j) (by omega)).trans (hg j hj)
    rw [hd j hj, hm j hj, show d.toList[i]! = d[i]! from Array.getElem!_toList] at this
    exact this)
  have k0 := key 0 (by omega)
  have k1 := key 1 (by omega)
  have k2 := key 2 (by omega)
  have k3 := key 3 (by omega)
  exact ⟨k0, k1, k2, k3⟩
theorem ownB_swp (h : w.ownsRow B T 4 (.slice (some ⟨g, 0, none⟩) n cap) n (rowB d)) (hn : d.size = n) {i j : Nat} (hi : i < n) (hj : j < n) :
    ((w.setCells g (i * 4) (encB d[j]!)).setCells g (j * 4) (encB d[i]!)).ownsRow B T 4 (.slice (some ⟨g, 0, none⟩) n cap) n (rowB (swp d i j)) ∧
    w.grownBy ((w.setCells g (i * 4) (encB d[j]!)).setCells g (j * 4) (encB d[i]!)) (some g) := by
  obtain ⟨hH, -, -⟩ := holdsK_own encB_len (by omega) h hn
  have e := putRowK_swp encB 4 encB_len w g 0 d i j (by omega) (by omega)
  rw [putRowK_self encB 4 w g 0 d hH, Nat.zero_add, Nat.zero_add] at e
  rw [e]
  have := own_sortWorldK encB_len (by omega) h (swp d i j) (by rw [swp_size]; exact hn) 0 #[]
  unfold sortWorldK at this
  rw [grow_empty, ahead_zero] at this
  exact this
end
theorem grows_grownBy {w w' : World} (h : Grows w w') (r : Option Nat) : w.grownBy w' r :=
  ⟨h.os, h.tape, h.output, h.size, fun k hk _ => Below.block h k hk⟩
theorem grownBy_trans' {a b c : World} {r : Option Nat} (h1 : a.grownBy b r) (h2 : b.grownBy c r) : a.grownBy c r :=
  ⟨h2.os.trans h1.os, h2.tape.trans h1.tape, h2.output.trans h1.output, Nat.le_trans h1.size h2.size, fun k hk hr => (h2.block k (Nat.lt_of_lt_of_le hk h1.size) hr).trans (h1.block k hk hr)⟩
end Go.Proofs.Ytlgplhanhnjeiaa
