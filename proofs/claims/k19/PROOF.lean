import PyProof.Rows.All
import Wide.All
import OpenK.AllK
import Wide.FinOn
import PySem.Challenge.RW_gaithold_k19_whole_linear_equations
import HandS.ForMost
import HandS.Wide
import HandS.IsInst
import HandS.Zip
import HandS.Codes
import HandS.Defaults
import HandS.MakeKwOnly
import HandS.Deep
import HandS.Style
import HandS.TupAny
import HandS.Style
import HandS.IsInst
import HandS.More
import HandS.Walk
import HandS.Iter
import HandS.Star
import KE.GoesZip
import KE.GoesMore
import KE.KDictZip
import KE.DataEq
import HandS.Ends
import PyProof.ReprRoads
import HandS.DictComp
import HandS.Strs
import HandS.SortKw
set_option Elab.async false
set_option linter.all false
set_option maxRecDepth 100000
set_option maxHeartbeats 4000000
/-! Elimination without fractions (Bareiss): every division is exact, what the rows are. -/
namespace Bar
abbrev Vec := Nat → Int
def upd (r : Nat → Vec) (i : Nat) (v : Vec) : Nat → Vec := fun m => if m = i then v else r m
theorem upd_self {r : Nat → Vec} {i : Nat} {v : Vec} : upd r i v i = v := by simp [upd]
theorem upd_ne {r : Nat → Vec} {i m : Nat} {v : Vec} (h : m ≠ i) : upd r i v m = r m := by simp [upd, h]
theorem upd_id {r : Nat → Vec} {i : Nat} : upd r i (r i) = r := by
  funext m
  by_cases h : m = i
  · rw [h, upd_self]
  · rw [upd_ne h]
theorem upd_id' {r : Nat → Vec} {i : Nat} {v : Vec} (h : v = r i) : upd r i v = r := by rw [h, upd_id]
theorem upd_upd {r : Nat → Vec} {i : Nat} {u v : Vec} : upd (upd r i u) i v = upd r i v := by
  funext m
  by_cases h : m = i
  · rw [h, upd_self, upd_self]
  · rw [upd_ne h, upd_ne h, upd_ne h]
theorem upd_comm {r : Nat → Vec} {i j : Nat} {u v : Vec} (hij : i ≠ j) : upd (upd r i u) j v = upd (upd r j v) i u := by
  funext m
  by_cases h : m = i
  · rw [h, upd_ne hij, upd_self, upd_self]
  · rw [upd_ne (r := upd r j v) h]
    by_cases g : m = j
    · rw [g, upd_self, upd_self]
    · rw [upd_ne g, upd_ne g, upd_ne h]
def sum : Nat → (Nat → Int) → Int
  | 0, _ => 0
  | k + 1, f => sum k f + f k
theorem sum_congr {k : Nat} {f g : Nat → Int} (h : ∀ i, i < k → f i = g i) : sum k f = sum k g := by
  induction k with
  | zero => rfl
  | succ k ih =>
    show sum k f + f k = sum k g + g k
    rw [ih fun i hi => h i (by omega), h k (by omega)]
theorem sum_zero {k : Nat} {f : Nat → Int} (h : ∀ i, i < k → f i = 0) : sum k f = 0 := by
  induction k with
  | zero => rfl
  | succ k ih =>
    show sum k f + f k = 0
    rw [ih fun i hi => h i (by omega), h k (by omega)]
    rfl
theorem sum_one {k m : Nat} {f : Nat → Int} (hm : m < k) (h : ∀ i, i < k → i ≠ m → f i = 0) : sum k f = f m := by
  induction k with
  | zero => omega
  | succ k ih =>
    show sum k f + f k = f m
    by_cases e : m = k
    · rw [sum_zero fun i hi => h i (by omega) (by omega), e]
      omega
    · rw [ih (by omega) fun i hi => h i (by omega), h k (by omega) (by omega)]
      omega
theorem sum_two {k m n : Nat} {f : Nat → Int} (hm : m < k) (hn : n < k) (hmn : m ≠ n) (h : ∀ i, i < k → i ≠ m → i ≠ n → f i = 0) : sum k f = f m + f n := by
  induction k with
  | zero => omega
  | succ k ih =>
    show sum k f + f k = f m + f n
    by_cases e : m = k
    · rw [sum_one (m := n) (by omega) fun i hi he => h i (by omega) (by omega) he, e]
      omega
    · by_cases g : n = k
      · rw [sum_one (m := m) (by omega) fun i hi he => h i (by omega) he (by omega), g]
      · rw [ih (by omega) (by omega) fun i hi => h i (by omega), h k (by omega) (by omega) (by omega)]
        omega
theorem sum_add {k : Nat} {f g : Nat → Int} : sum k (fun i => f i + g i) = sum k f + sum k g := by
  induction k with
  | zero => rfl
  | succ k ih =>
    show sum k (fun i => f i + g i) + (f k + g k) = sum k f + f k + (sum k g + g k)
    rw [ih]
    omega
theorem sum_sub {k : Nat} {f g : Nat → Int} : sum k (fun i => f i - g i) = sum k f - sum k g := by
  induction k with
  | zero => rfl
  | succ k ih =>
    show sum k (fun i => f i - g i) + (f k - g k) = sum k f + f k - (sum k g + g k)
    rw [ih]
    omega
theorem sum_mul {k : Nat} {a : Int} {f : Nat → Int} : sum k (fun i => a * f i) = a * sum k f := by
  induction k with
  | zero => exact (Int.mul_zero a).symm
  | succ k ih =>
    show sum k (fun i => a * f i) + a * f k = a * (sum k f + f k)
    rw [ih, Int.mul_add]
theorem sum_lin {k : Nat} {a b : Int} {f g : Nat → Int} : sum k (fun i => a * f i + b * g i) = a * sum k f + b * sum k g := by
  rw [sum_add, sum_mul, sum_mul]
theorem sum_swap {k n : Nat} {f : Nat → Nat → Int} : sum k (fun i => sum n fun j => f i j) = sum n fun j => sum k fun i => f i j := by
  induction k with
  | zero => exact (sum_zero (f := fun _ => 0) fun _ _ => rfl).symm
  | succ k ih =>
    show sum k (fun i => sum n fun j => f i j) + sum n (fun j => f k j) = sum n fun j => sum k (fun i => f i j) + f k j
    rw [ih, sum_add]
/-- the determinant of the first k rows at the columns c 0 .. c (k - 1) -/
def D (c : Nat → Nat) : Nat → (Nat → Vec) → Int
  | 0, _ => 1
  | k + 1, r => D c k r * r k (c k) - sum k fun i => D c k (upd r i (r k)) * r i (c k)
theorem D_succ {c : Nat → Nat} {k : Nat} {r : Nat → Vec} : D c (k + 1) r = D c k r * r k (c k) - sum k fun i => D c k (upd r i (r k)) * r i (c k) := rfl
theorem D_congr {c c' : Nat → Nat} {k : Nat} {r r' : Nat → Vec} (h : ∀ i, i < k → ∀ j, j < k → r i (c j) = r' i (c' j)) : D c k r = D c' k r' := by
  induction k generalizing r r' with
  | zero => rfl
  | succ k ih =>
    rw [D_succ, D_succ, ih fun i hi j hj => h i (by omega) j (by omega), h k (by omega) k (by omega)]
    congr 1
    refine sum_congr fun i hi => ?_
    rw [h i (by omega) k (by omega)]
    congr 1
    refine ih fun m hm j hj => ?_
    by_cases e : m = i
    · rw [e, upd_self, upd_self]
      exact h k (by omega) j (by omega)
    · rw [upd_ne e, upd_ne e]
      exact h m (by omega) j (by omega)
theorem D_upd_ge {c : Nat → Nat} {k i : Nat} {r : Nat → Vec} {v : Vec} (h : k ≤ i) : D c k (upd r i v) = D c k r :=
  D_congr fun m hm j _ => by rw [upd_ne (by omega)]
theorem D_lin {c : Nat → Nat} {k i : Nat} {a b : Int} {u v w : Vec} (hw : ∀ j, w j = a * u j + b * v j) : ∀ {r : Nat → Vec}, i < k → D c k (upd r i w) = a * D c k (upd r i u) + b * D c k (upd r i v) := by
  induction k generalizing i with
  | zero => intro r h; omega
  | succ k ih =>
    intro r h
    by_cases e : i = k
    · subst e
      have key : ∀ x : Vec, D c (i + 1) (upd r i x) = D c i r * x (c i) - sum i fun m => D c i (upd r m x) * r m (c i) := fun x => by
        rw [D_succ, D_upd_ge (Nat.le_refl _), upd_self]
        congr 1
        refine sum_congr fun m hm => ?_
        rw [upd_ne (r := r) (by omega), upd_comm (by omega), D_upd_ge (Nat.le_refl _)]
      rw [key, key, key, hw]
      have s : (sum i fun m => D c i (upd r m w) * r m (c i)) = a * (sum i fun m => D c i (upd r m u) * r m (c i)) + b * sum i fun m => D c i (upd r m v) * r m (c i) := by
        rw [← sum_lin]
        refine sum_congr fun m hm => ?_
        rw [ih hm]
        grind
      rw [s]
      grind
    · have hi : i < k := by omega
      have key : ∀ x : Vec, D c (k + 1) (upd r i x) = D c k (upd r i x) * r k (c k) - sum k fun m => if m = i then D c k (upd r i (r k)) * x (c k) else D c k (upd (upd r m (r k)) i x) * r m (c k) := fun x => by
        rw [D_succ, upd_ne (show k ≠ i by omega)]
        congr 1
        refine sum_congr fun m hm => ?_
        by_cases g : m = i
        · subst g
          rw [if_pos rfl, upd_upd, upd_self]
        · rw [if_neg g, upd_ne g, upd_comm (fun z => g z.symm)]
      rw [key, key, key, ih hi]
      have s : (sum k fun m => if m = i then D c k (upd r i (r k)) * w (c k) else D c k (upd (upd r m (r k)) i w) * r m (c k)) =
          a * (sum k fun m => if m = i then D c k (upd r i (r k)) * u (c k) else D c k (upd (upd r m (r k)) i u) * r m (c k)) + b * sum k fun m => if m = i then D c k (upd r i (r k)) * v (c k) else D c k (upd (upd r m (r k)) i v) * r m (c k) := by
        rw [← sum_lin]
        refine sum_congr fun m hm => ?_
        by_cases g : m = i
        · rw [if_pos g, if_pos g, if_pos g, hw]
          grind
        · rw [if_neg g, if_neg g, if_neg g, ih hi]
          grind
      rw [s]
      grind
theorem D_add {c : Nat → Nat} {k i : Nat} {u v : Vec} {r : Nat → Vec} (h : i < k) : D c k (upd r i fun j => u j + v j) = D c k (upd r i u) + D c k (upd r i v) := by
  rw [D_lin (a := 1) (b := 1) (u := u) (v := v) (fun j => by omega) h]
  omega
theorem D_smul {c : Nat → Nat} {k i : Nat} {a : Int} {u : Vec} {r : Nat → Vec} (h : i < k) : D c k (upd r i fun j => a * u j) = a * D c k (upd r i u) := by
  rw [D_lin (a := a) (b := 0) (u := u) (v := u) (fun j => by omega) h]
  omega
theorem D_null {c : Nat → Nat} {k i : Nat} {u : Vec} {r : Nat → Vec} (h : i < k) (hu : ∀ j, j < k → u (c j) = 0) : D c k (upd r i u) = 0 := by
  have e : D c k (upd r i u) = D c k (upd r i fun j => 0 * u j) := D_congr fun m hm j hj => by
    by_cases g : m = i
    · rw [g, upd_self, upd_self, hu j hj]
      rfl
    · rw [upd_ne g, upd_ne g]
  rw [e, D_smul h, Int.zero_mul]
theorem D_sum {c : Nat → Nat} {k i n : Nat} {a : Nat → Int} {v : Nat → Vec} {r : Nat → Vec} (h : i < k) : D c k (upd r i fun j => sum n fun m => a m * v m j) = sum n fun m => a m * D c k (upd r i (v m)) := by
  induction n with
  | zero => exact D_null h fun _ _ => rfl
  | succ n ih =>
    show D c k (upd r i fun j => sum n (fun m => a m * v m j) + a n * v n j) = sum n (fun m => a m * D c k (upd r i (v m))) + a n * D c k (upd r i (v n))
    rw [D_add h, ih, D_smul h]
section
variable {c : Nat → Nat} {k : Nat}
/-- two equal rows -/
def Alt (c : Nat → Nat) (k : Nat) : Prop := ∀ (r : Nat → Vec) (a b : Nat), a < k → b < k → a ≠ b → r a = r b → D c k r = 0
theorem Alt.anti (h : Alt c k) {r : Nat → Vec} {a b : Nat} {u v : Vec} (ha : a < k) (hb : b < k) (hab : a ≠ b) : D c k (upd (upd r a u) b v) = - D c k (upd (upd r a v) b u) := by
  have e1 : ∀ w : Vec, D c k (upd (upd r a w) b w) = 0 := fun w => h _ a b ha hb hab (by rw [upd_ne hab, upd_self, upd_self])
  have e2 := e1 fun j => u j + v j
  rw [D_add hb, upd_comm hab, D_add ha, upd_comm (i := a) hab, D_add ha, upd_comm (fun z => hab z.symm), upd_comm (fun z => hab z.symm), upd_comm (fun z => hab z.symm), upd_comm (fun z => hab z.symm), e1, e1] at e2
  omega
theorem D_alt : Alt c k := by
  induction k with
  | zero => intro r a b h; omega
  | succ k ih =>
    -- a below b
    have low : ∀ (r : Nat → Vec) (a b : Nat), a < b → b < k + 1 → r a = r b → D c (k + 1) r = 0 := by
      intro r a b hab hb e
      rw [D_succ]
      by_cases g : b = k
      · subst g
        rw [sum_one (m := a) hab fun i hi hia => ?_]
        · rw [upd_id' e.symm, ← e]
          omega
        · rw [ih (upd r i (r b)) a i hab hi (fun z => hia z.symm) (by rw [upd_ne (fun z => hia z.symm), upd_self, e]), Int.zero_mul]
      · rw [ih r a b (by omega) (by omega) (by omega) e, sum_two (m := a) (n := b) (by omega) (by omega) (by omega) fun i hi hia hib => ?_]
        · have q := Alt.anti ih (r := r) (a := a) (b := b) (u := r k) (v := r b) (by omega) (by omega) (by omega)
          rw [upd_comm (by omega), upd_id' (r := r) rfl, ← e, upd_id] at q
          rw [q, e]
          grind
        · rw [ih (upd r i (r k)) a b (by omega) (by omega) (by omega) (by rw [upd_ne (fun z => hia z.symm), upd_ne (fun z => hib z.symm), e]), Int.zero_mul]
    intro r a b ha hb hab e
    rcases Nat.lt_or_gt_of_ne hab with z | z
    · exact low r a b z hb e
    · exact low r b a z ha e.symm
end
/-- what elimination makes of a row -/
def F (c : Nat → Nat) (k : Nat) (r : Nat → Vec) (x : Vec) : Vec := fun j => D c k r * x j - sum k fun i => D c k (upd r i x) * r i j
theorem D_F {c : Nat → Nat} {k : Nat} {r : Nat → Vec} : D c (k + 1) r = F c k r (r k) (c k) := rfl
theorem D_last {c : Nat → Nat} {k : Nat} {r : Nat → Vec} {x : Vec} : D c (k + 1) (upd r k x) = F c k r x (c k) := by
  rw [D_F, upd_self]
  show D c k (upd r k x) * x (c k) - sum k (fun i => D c k (upd (upd r k x) i x) * upd r k x i (c k)) = D c k r * x (c k) - sum k fun i => D c k (upd r i x) * r i (c k)
  rw [D_upd_ge (Nat.le_refl _)]
  congr 1
  refine sum_congr fun i hi => ?_
  rw [upd_comm (by omega), D_upd_ge (Nat.le_refl _), upd_ne (by omega)]
/-- it vanishes at the pivots -/
def Cram (c : Nat → Nat) (k : Nat) (r : Nat → Vec) : Prop := ∀ (x : Vec) (j : Nat), j < k → F c k r x (c j) = 0
theorem Cram.eq {c : Nat → Nat} {k : Nat} {r : Nat → Vec} (h : Cram c k r) (x : Vec) {j : Nat} (hj : j < k) : D c k r * x (c j) = sum k fun i => D c k (upd r i x) * r i (c j) := by
  have q : D c k r * x (c j) - (sum k fun i => D c k (upd r i x) * r i (c j)) = 0 := h x j hj
  omega
theorem pluck {c : Nat → Nat} {k i m : Nat} {r : Nat → Vec} {x y : Vec} (h : Cram c k r) (hi : i < k) (hm : m < k) (him : i ≠ m) :
    D c k r * D c k (upd (upd r i x) m y) = D c k (upd r i x) * D c k (upd r m y) - D c k (upd r m x) * D c k (upd r i y) := by
  have e1 : D c k r * D c k (upd (upd r i x) m y) = D c k (upd (upd r m y) i fun j => sum k fun l => D c k (upd r l x) * r l j) := by
    rw [upd_comm him, ← D_smul hi]
    refine D_congr fun a ha j hj => ?_
    by_cases g : a = i
    · rw [g, upd_self, upd_self]
      exact h.eq x hj
    · rw [upd_ne g, upd_ne g]
  rw [e1, D_sum hi, sum_two hi hm him fun l hl hli hlm => ?_]
  · rw [upd_comm (i := m) (fun z => him z.symm), upd_id]
    have q := Alt.anti (D_alt (c := c) (k := k)) (r := r) (u := y) (v := r m) hm hi (fun z => him z.symm)
    rw [upd_id] at q
    rw [q]
    grind
  · have q : D c k (upd (upd r m y) i (r l)) = 0 := D_alt (c := c) (k := k) _ l i hl hi hli (by rw [upd_self, upd_ne hli, upd_ne hlm])
    rw [q, Int.mul_zero]
theorem pluck' {c : Nat → Nat} {k i : Nat} {r : Nat → Vec} {x : Vec} (h : Cram c k r) (hi : i < k) :
    D c k r * D c (k + 1) (upd r i x) = D c (k + 1) r * D c k (upd r i x) - F c k r x (c k) * D c k (upd r i (r k)) := by
  have e1 : D c (k + 1) (upd r i x) = D c k (upd r i x) * r k (c k) - sum k fun m => D c k (upd (upd r i x) m (r k)) * upd r i x m (c k) := by
    rw [D_succ, upd_ne (show k ≠ i by omega)]
  have e2 : D c k r * (sum k fun m => D c k (upd (upd r i x) m (r k)) * upd r i x m (c k)) =
      D c k r * D c k (upd r i (r k)) * x (c k) + (D c k (upd r i x) * (sum k fun m => D c k (upd r m (r k)) * r m (c k)) - D c k (upd r i (r k)) * sum k fun m => D c k (upd r m x) * r m (c k)) := by
    rw [← sum_mul, ← sum_mul, ← sum_mul, ← sum_sub]
    have e3 : D c k r * D c k (upd r i (r k)) * x (c k) = sum k fun m => if m = i then D c k r * D c k (upd r i (r k)) * x (c k) else 0 := by
      rw [sum_one hi fun m hm hmi => by rw [if_neg hmi], if_pos rfl]
    rw [e3, ← sum_add]
    refine sum_congr fun m hm => ?_
    by_cases g : m = i
    · subst g
      rw [if_pos rfl, upd_upd, upd_self]
      grind
    · rw [if_neg g, upd_ne g]
      have q := pluck h hi hm (x := x) (y := r k) (fun z => g z.symm)
      grind
  have e4 : D c (k + 1) r = D c k r * r k (c k) - sum k fun m => D c k (upd r m (r k)) * r m (c k) := D_succ
  have e5 : F c k r x (c k) = D c k r * x (c k) - sum k fun m => D c k (upd r m x) * r m (c k) := rfl
  rw [e1, e4, e5]
  grind
/-- one step -/
theorem stepF {c : Nat → Nat} {k : Nat} {r : Nat → Vec} (h : Cram c k r) (x : Vec) (j : Nat) :
    D c k r * F c (k + 1) r x j = D c (k + 1) r * F c k r x j - F c k r x (c k) * F c k r (r k) j := by
  have e1 : F c (k + 1) r x j = D c (k + 1) r * x j - ((sum k fun i => D c (k + 1) (upd r i x) * r i j) + D c (k + 1) (upd r k x) * r k j) := rfl
  have e2 : D c k r * (sum k fun i => D c (k + 1) (upd r i x) * r i j) = D c (k + 1) r * (sum k fun i => D c k (upd r i x) * r i j) - F c k r x (c k) * sum k fun i => D c k (upd r i (r k)) * r i j := by
    rw [← sum_mul, ← sum_mul, ← sum_mul, ← sum_sub]
    refine sum_congr fun i hi => ?_
    have q := pluck' h hi (x := x)
    grind
  have e3 : F c k r x j = D c k r * x j - sum k fun i => D c k (upd r i x) * r i j := rfl
  have e4 : F c k r (r k) j = D c k r * r k j - sum k fun i => D c k (upd r i (r k)) * r i j := rfl
  rw [e1, D_last, e3, e4]
  grind
theorem cram0 {c : Nat → Nat} {r : Nat → Vec} : Cram c 0 r := fun x j h => by omega
theorem Cram.next {c : Nat → Nat} {k : Nat} {r : Nat → Vec} (h : Cram c k r) (hd : D c k r ≠ 0) : Cram c (k + 1) r := fun x j hj => by
  have q := stepF h x (c j)
  have z : D c k r * F c (k + 1) r x (c j) = 0 := by
    rw [q]
    by_cases e : j = k
    · subst e
      rw [D_F]
      grind
    · rw [h x j (by omega), h (r k) j (by omega)]
      omega
  rcases Int.mul_eq_zero.mp z with y | y
  · exact absurd y hd
  · exact y
/-- combinations of independent rows are told by their values at the pivots -/
theorem indep {c : Nat → Nat} {k : Nat} {r : Nat → Vec} {a : Nat → Int} (hd : D c k r ≠ 0) (h : ∀ j, j < k → (sum k fun m => a m * r m (c j)) = 0) : ∀ i, i < k → a i = 0 := fun i hi => by
  have e1 : D c k (upd r i fun j => sum k fun m => a m * r m j) = 0 := D_null hi h
  rw [D_sum hi, sum_one hi fun m hm hmi => by rw [D_alt (c := c) (k := k) _ m i hm hi hmi (by rw [upd_self, upd_ne hmi]), Int.mul_zero], upd_id] at e1
  rcases Int.mul_eq_zero.mp e1 with y | y
  · exact y
  · exact absurd y hd
theorem same {c : Nat → Nat} {k : Nat} {r : Nat → Vec} {a b : Nat → Int} (hd : D c k r ≠ 0) (h : ∀ j, j < k → (sum k fun m => a m * r m (c j)) = sum k fun m => b m * r m (c j)) (j : Nat) : (sum k fun m => a m * r m j) = sum k fun m => b m * r m j := by
  have q := indep (a := fun m => a m - b m) hd fun j hj => by
    have e : (sum k fun m => (a m - b m) * r m (c j)) = (sum k fun m => a m * r m (c j)) - sum k fun m => b m * r m (c j) := by
      rw [← sum_sub]
      exact sum_congr fun m _ => Int.sub_mul _ _ _
    rw [e, h j hj]
    omega
  refine sum_congr fun m hm => ?_
  have := q m hm
  have e : a m = b m := by omega
  rw [e]
def ind (n : Nat) : Vec := fun j => if j = n then 1 else 0
/-- a row that has been a pivot row -/
def G (c : Nat → Nat) (k : Nat) (r : Nat → Vec) (i : Nat) : Vec := fun j => sum k fun m => D c k (upd r m (ind (c i))) * r m j
theorem G_at {c : Nat → Nat} {k i j : Nat} {r : Nat → Vec} (h : Cram c k r) (hj : j < k) : G c k r i (c j) = if c j = c i then D c k r else 0 := by
  have q := h.eq (ind (c i)) hj
  have e : G c k r i (c j) = D c k r * ind (c i) (c j) := q.symm
  rw [e]
  unfold ind
  by_cases g : c j = c i
  · rw [if_pos g, if_pos g, Int.mul_one]
  · rw [if_neg g, if_neg g, Int.mul_zero]
theorem F_sum {c : Nat → Nat} {k : Nat} {r : Nat → Vec} {j : Nat} : F c k r (r k) j = sum (k + 1) fun m => (if m = k then D c k r else - D c k (upd r m (r k))) * r m j := by
  show D c k r * r k j - sum k (fun i => D c k (upd r i (r k)) * r i j) = sum k (fun m => (if m = k then D c k r else - D c k (upd r m (r k))) * r m j) + (if k = k then D c k r else - D c k (upd r k (r k))) * r k j
  rw [if_pos rfl]
  have e : sum k (fun m => (if m = k then D c k r else - D c k (upd r m (r k))) * r m j) = sum k fun i => (-1) * (D c k (upd r i (r k)) * r i j) := sum_congr fun m hm => by
    rw [if_neg (by omega)]
    grind
  rw [e, sum_mul]
  omega
/-- the new pivot row -/
theorem G_new {c : Nat → Nat} {k : Nat} {r : Nat → Vec} (h : Cram c k r) (hk : D c k r ≠ 0) (hd : D c (k + 1) r ≠ 0) (inj : ∀ i, i < k → c i ≠ c k) (j : Nat) : G c (k + 1) r k j = F c k r (r k) j := by
  rw [F_sum]
  refine same hd (fun i hi => ?_) j
  have e1 : (sum (k + 1) fun m => D c (k + 1) (upd r m (ind (c k))) * r m (c i)) = if c i = c k then D c (k + 1) r else 0 := G_at (h.next hk) hi
  rw [e1, ← F_sum]
  by_cases g : i = k
  · rw [g, if_pos rfl]
    exact D_F
  · rw [if_neg (inj i (by omega)), h _ _ (by omega)]
/-- one step for the others -/
theorem stepG {c : Nat → Nat} {k i : Nat} {r : Nat → Vec} (h : Cram c k r) (hk : D c k r ≠ 0) (hd : D c (k + 1) r ≠ 0) (inj : ∀ i, i < k → c i ≠ c k) (hi : i < k) (j : Nat) :
    D c k r * G c (k + 1) r i j = D c (k + 1) r * G c k r i j - G c k r i (c k) * F c k r (r k) j := by
  have e1 : ∀ j, D c k r * G c (k + 1) r i j = sum (k + 1) fun m => (D c k r * D c (k + 1) (upd r m (ind (c i)))) * r m j := fun j => by
    show D c k r * sum (k + 1) (fun m => D c (k + 1) (upd r m (ind (c i))) * r m j) = _
    rw [← sum_mul]
    exact sum_congr fun m _ => (Int.mul_assoc _ _ _).symm
  have e2 : ∀ j, D c (k + 1) r * G c k r i j - G c k r i (c k) * F c k r (r k) j = sum (k + 1) fun m => (D c (k + 1) r * (if m = k then 0 else D c k (upd r m (ind (c i)))) - G c k r i (c k) * (if m = k then D c k r else - D c k (upd r m (r k)))) * r m j := fun j => by
    have z : G c k r i j = sum (k + 1) fun m => (if m = k then 0 else D c k (upd r m (ind (c i)))) * r m j := by
      show sum k (fun m => D c k (upd r m (ind (c i))) * r m j) = sum k (fun m => (if m = k then 0 else D c k (upd r m (ind (c i)))) * r m j) + (if k = k then 0 else D c k (upd r k (ind (c i)))) * r k j
      rw [if_pos rfl, Int.zero_mul, Int.add_zero]
      exact sum_congr fun m hm => by rw [if_neg (by omega)]
    rw [F_sum, z, ← sum_mul, ← sum_mul, ← sum_sub]
    exact sum_congr fun m _ => by grind
  rw [e1, e2]
  refine same hd (fun m hm => ?_) j
  rw [← e1, ← e2, G_at (h.next hk) hm]
  by_cases g : m = k
  · subst g
    rw [if_neg (fun z => inj i hi z.symm), ← D_F]
    grind
  · rw [G_at h (by omega), h _ _ (by omega)]
    by_cases y : c m = c i
    · rw [if_pos y, if_pos y]
      grind
    · rw [if_neg y, if_neg y]
      grind
/-- linear equations that all rows keep are kept by what elimination makes -/
theorem keeps {c : Nat → Nat} {k w : Nat} {r : Nat → Vec} {x : Vec} {n : Vec} {den : Int} (hr : ∀ i, i < k → (sum w fun j => r i j * n j) = r i w * den) (hx : (sum w fun j => x j * n j) = x w * den) : (sum w fun j => F c k r x j * n j) = F c k r x w * den := by
  have e1 : (sum w fun j => F c k r x j * n j) = D c k r * (sum w fun j => x j * n j) - sum k fun i => D c k (upd r i x) * sum w fun j => r i j * n j := by
    have e2 : (sum k fun i => D c k (upd r i x) * sum w fun j => r i j * n j) = sum w fun j => sum k fun i => D c k (upd r i x) * r i j * n j := by
      rw [← sum_swap]
      exact sum_congr fun i _ => by
        rw [← sum_mul]
        exact sum_congr fun j _ => (Int.mul_assoc _ _ _).symm
    rw [e2, ← sum_mul, ← sum_sub]
    refine sum_congr fun j _ => ?_
    show (D c k r * x j - sum k fun i => D c k (upd r i x) * r i j) * n j = _
    rw [Int.sub_mul]
    have e3 : (sum k fun i => D c k (upd r i x) * r i j) * n j = sum k fun i => D c k (upd r i x) * r i j * n j := by
      rw [Int.mul_comm, ← sum_mul]
      exact sum_congr fun i _ => Int.mul_comm _ _
    rw [e3]
    grind
  rw [e1, hx]
  show _ = (D c k r * x w - sum k fun i => D c k (upd r i x) * r i w) * den
  rw [Int.sub_mul]
  have e4 : (sum k fun i => D c k (upd r i x) * sum w fun j => r i j * n j) = (sum k fun i => D c k (upd r i x) * r i w) * den := by
    rw [Int.mul_comm (sum k _), ← sum_mul]
    exact sum_congr fun i hi => by
      rw [hr i hi]
      grind
  rw [e4]
  grind
/-! ### bounds -/
def fac : Nat → Nat
  | 0 => 1
  | n + 1 => (n + 1) * fac n
theorem sum_bound {k N : Nat} {f : Nat → Int} (h : ∀ i, i < k → (f i).natAbs ≤ N) : (sum k f).natAbs ≤ k * N := by
  induction k with
  | zero => exact Nat.zero_le _
  | succ k ih =>
    show (sum k f + f k).natAbs ≤ (k + 1) * N
    have a := ih fun i hi => h i (by omega)
    have b := h k (by omega)
    have e := Int.natAbs_add_le (sum k f) (f k)
    rw [Nat.succ_mul]
    omega
theorem mul_bound {x y : Int} {a b : Nat} (hx : x.natAbs ≤ a) (hy : y.natAbs ≤ b) : (x * y).natAbs ≤ a * b := by
  rw [Int.natAbs_mul]
  exact Nat.mul_le_mul hx hy
theorem sub_bound {x y : Int} {a b : Nat} (hx : x.natAbs ≤ a) (hy : y.natAbs ≤ b) : (x - y).natAbs ≤ a + b := by omega
theorem fac_step {k N : Nat} : fac k * N ^ k * N + k * (fac k * N ^ k * N) = fac (k + 1) * N ^ (k + 1) := by
  show _ = (k + 1) * fac k * N ^ (k + 1)
  rw [Nat.pow_succ]
  have e : (k + 1) * fac k * (N ^ k * N) = (k + 1) * (fac k * N ^ k * N) := by
    rw [Nat.mul_assoc, Nat.mul_assoc]
  rw [e, Nat.succ_mul]
  omega
theorem D_bound {c : Nat → Nat} {N : Nat} : ∀ {k : Nat} {r : Nat → Vec}, (∀ i, i < k → ∀ j, j < k → (r i (c j)).natAbs ≤ N) → (D c k r).natAbs ≤ fac k * N ^ k
  | 0, _, _ => by show (1 : Int).natAbs ≤ 1 * N ^ 0; rw [Nat.pow_zero]; decide
  | k + 1, r, h => by
    rw [D_succ, ← fac_step]
    refine sub_bound (mul_bound (D_bound fun i hi j hj => h i (by omega) j (by omega)) (h k (by omega) k (by omega))) (sum_bound fun i hi => mul_bound (D_bound fun m hm j hj => ?_) (h i (by omega) k (by omega)))
    by_cases e : m = i
    · rw [e, upd_self]
      exact h k (by omega) j (by omega)
    · rw [upd_ne e]
      exact h m (by omega) j (by omega)
theorem F_bound {c : Nat → Nat} {N k j : Nat} {r : Nat → Vec} {x : Vec} (h : ∀ i, i < k → ∀ j, j < k → (r i (c j)).natAbs ≤ N) (hj : ∀ i, i < k → (r i j).natAbs ≤ N) (hx : ∀ j, j < k → (x (c j)).natAbs ≤ N) (hxj : (x j).natAbs ≤ N) :
    (F c k r x j).natAbs ≤ fac (k + 1) * N ^ (k + 1) := by
  rw [← fac_step]
  refine sub_bound (mul_bound (D_bound h) hxj) (sum_bound fun i hi => mul_bound (D_bound fun m hm j hj => ?_) (hj i hi))
  by_cases e : m = i
  · rw [e, upd_self]
    exact hx j hj
  · rw [upd_ne e]
    exact h m hm j hj
theorem G_bound {c : Nat → Nat} {N k i j : Nat} {r : Nat → Vec} (N1 : 1 ≤ N) (h : ∀ i, i < k → ∀ j, j < k → (r i (c j)).natAbs ≤ N) (hj : ∀ i, i < k → (r i j).natAbs ≤ N) : (G c k r i j).natAbs ≤ fac (k + 1) * N ^ (k + 1) := by
  have e : (G c k r i j).natAbs ≤ k * (fac k * N ^ k * N) := by
    refine sum_bound fun m hm => mul_bound (D_bound fun a ha b hb => ?_) (hj m hm)
    by_cases e : a = m
    · rw [e, upd_self]
      unfold ind
      split <;> omega
    · rw [upd_ne e]
      exact h a ha b hb
  rw [← fac_step]
  omega
theorem fac_le {k L : Nat} (h : k ≤ 2 ^ L) : fac k ≤ 2 ^ (L * k) := by
  induction k with
  | zero => exact Nat.one_le_two_pow
  | succ k ih =>
    show (k + 1) * fac k ≤ 2 ^ (L * (k + 1))
    rw [show L * (k + 1) = L + L * k by rw [Nat.mul_succ]; omega, Nat.pow_add]
    exact Nat.mul_le_mul h (ih (by omega))
/-! ### lists -/
def vec (xs : List Int) : Vec := fun j => xs.getD j 0
theorem vec_at {xs : List Int} {i : Nat} {x : Int} (h : xs[i]? = some x) : vec xs i = x := by
  unfold vec
  rw [List.getD_eq_getElem?_getD, h]
  rfl
def clrF (xs ps : List Int) (c : Nat) (l : Int) : List Int := (xs.zip ps).map fun q => (vec ps c * q.1 - vec xs c * q.2).fdiv l
theorem clrF_len {xs ps : List Int} {c : Nat} {l : Int} (h : xs.length = ps.length) : (clrF xs ps c l).length = xs.length := by
  unfold clrF
  rw [List.length_map, List.length_zip, ← h, Nat.min_self]
theorem clrF_at {xs ps : List Int} {c i : Nat} {l x p : Int} (hx : xs[i]? = some x) (hp : ps[i]? = some p) : (clrF xs ps c l)[i]? = some ((vec ps c * x - vec xs c * p).fdiv l) := by
  unfold clrF
  rw [List.getElem?_map, (List.getElem?_zip_eq_some (z := (x, p))).mpr ⟨hx, hp⟩]
  rfl
theorem clrF_vec {xs ps : List Int} {c i : Nat} {l : Int} (h : xs.length = ps.length) (hi : i < xs.length) : vec (clrF xs ps c l) i = (vec ps c * vec xs i - vec xs c * vec ps i).fdiv l := by
  have hx : xs[i]? = some (xs[i]'hi) := List.getElem?_eq_getElem hi
  have hp : ps[i]? = some (ps[i]'(by omega)) := List.getElem?_eq_getElem _
  rw [vec_at (clrF_at hx hp), vec_at hx, vec_at hp]
structure ES where
  cols : List Nat
  done : List (List Int)
  rest : List (List Int)
  last : Int
def firstNZ (l : List Int) : Option Nat := l.findIdx? fun x => !decide (x = 0)
/-- one column, as the program does it -/
def stepE (s : ES) (col : Nat) : ES :=
  match firstNZ (s.rest.map fun x => vec x col) with
  | none => s
  | some at' => { cols := s.cols ++ [col], done := s.done.map (fun y => clrF y (s.rest.getD at' []) col s.last) ++ [s.rest.getD at' []], rest := (s.rest.take at' ++ s.rest.drop (at' + 1)).map (fun y => clrF y (s.rest.getD at' []) col s.last), last := vec (s.rest.getD at' []) col }
def elimN (rows : List (List Int)) : Nat → ES
  | 0 => ⟨[], [], rows, 1⟩
  | col + 1 => stepE (elimN rows col) col
def rowsOf (ps : List (List Int)) : Nat → Vec := fun i => vec (ps.getD i [])
def colsOf (cs : List Nat) : Nat → Nat := fun i => cs.getD i 0
theorem getD_of {α : Type} {l : List α} {i : Nat} {a d : α} (h : l[i]? = some a) : l.getD i d = a := by
  rw [List.getD_eq_getElem?_getD, h]
  rfl
theorem getD_left {α : Type} {l m : List α} {i : Nat} {d : α} (h : i < l.length) : (l ++ m).getD i d = l.getD i d := by
  rw [List.getD_eq_getElem?_getD, List.getD_eq_getElem?_getD, List.getElem?_append_left h]
theorem getD_last {α : Type} {l : List α} {a d : α} : (l ++ [a]).getD l.length d = a := by
  rw [List.getD_eq_getElem?_getD, List.getElem?_append_right (Nat.le_refl _), Nat.sub_self]
  rfl
structure EInv (rows : List (List Int)) (w col : Nat) (s : ES) (ps xs : List (List Int)) : Prop where
  perm : (ps ++ xs).Perm rows
  lc : s.cols.length = ps.length
  ld : s.done.length = ps.length
  lr : s.rest.length = xs.length
  kc : ps.length ≤ col
  lt : ∀ i, i < ps.length → colsOf s.cols i < col
  inc : ∀ i j, i < j → j < ps.length → colsOf s.cols i < colsOf s.cols j
  nz : ∀ m, m ≤ ps.length → D (colsOf s.cols) m (rowsOf ps) ≠ 0
  last : s.last = D (colsOf s.cols) ps.length (rowsOf ps)
  dn : ∀ (i : Nat) (y : List Int), s.done[i]? = some y → y.length = w + 1 ∧ ∀ j, j ≤ w → vec y j = G (colsOf s.cols) ps.length (rowsOf ps) i j
  rs : ∀ (i : Nat) (y : List Int), s.rest[i]? = some y → ∃ x, xs[i]? = some x ∧ y.length = w + 1 ∧ (∀ j, j ≤ w → vec y j = F (colsOf s.cols) ps.length (rowsOf ps) (vec x) j) ∧ ∀ j, j < col → vec y j = 0
theorem crams {c : Nat → Nat} {r : Nat → Vec} : ∀ {k : Nat}, (∀ m, m ≤ k → D c m r ≠ 0) → Cram c k r
  | 0, _ => cram0
  | k + 1, h => (crams fun m hm => h m (by omega)).next (h k (by omega))
theorem F_congr {c c' : Nat → Nat} {k : Nat} {r r' : Nat → Vec} {x : Vec} (hc : ∀ i, i < k → c i = c' i) (hr : ∀ i, i < k → r i = r' i) (j : Nat) : F c k r x j = F c' k r' x j := by
  show D c k r * x j - sum k (fun i => D c k (upd r i x) * r i j) = D c' k r' * x j - sum k fun i => D c' k (upd r' i x) * r' i j
  rw [D_congr (c := c) (c' := c') (k := k) (r := r) (r' := r') fun i hi j hj => by rw [hc j hj, hr i hi]]
  congr 1
  refine sum_congr fun i hi => ?_
  rw [hr i hi]
  congr 1
  refine D_congr fun m hm j hj => ?_
  rw [hc j hj]
  by_cases e : m = i
  · rw [e, upd_self, upd_self]
  · rw [upd_ne e, upd_ne e, hr m hm]
theorem G_congr {c c' : Nat → Nat} {k i : Nat} {r r' : Nat → Vec} (hc : ∀ i, i < k → c i = c' i) (hr : ∀ i, i < k → r i = r' i) (hi : i < k) (j : Nat) : G c k r i j = G c' k r' i j := by
  show (sum k fun m => D c k (upd r m (ind (c i))) * r m j) = sum k fun m => D c' k (upd r' m (ind (c' i))) * r' m j
  rw [hc i hi]
  refine sum_congr fun m hm => ?_
  rw [hr m hm]
  congr 1
  refine D_congr fun a ha b hb => ?_
  rw [hc b hb]
  by_cases e : a = m
  · rw [e, upd_self, upd_self]
  · rw [upd_ne e, upd_ne e, hr a ha]
theorem mul_fdiv {d z : Int} (h : d ≠ 0) : (d * z).fdiv d = z := Int.mul_fdiv_cancel_left z h
theorem einv0 {rows : List (List Int)} {w : Nat} (hw : ∀ x ∈ rows, x.length = w + 1) : EInv rows w 0 (elimN rows 0) [] rows where
  perm := List.Perm.refl _
  lc := rfl
  ld := rfl
  lr := rfl
  kc := Nat.le_refl _
  lt := fun i hi => absurd hi (Nat.not_lt_zero _)
  inc := fun i j _ hj => absurd hj (Nat.not_lt_zero _)
  nz := fun m hm => by
    have e : m = 0 := Nat.le_zero.mp hm
    rw [e]
    show (1 : Int) ≠ 0
    decide
  last := rfl
  dn := fun i y h => by
    have h' : ([] : List (List Int))[i]? = some y := h
    cases h'
  rs := fun i y h => by
    have h' : rows[i]? = some y := h
    refine ⟨y, h', hw y (List.mem_of_getElem? h'), fun j _ => ?_, fun j hj => absurd hj (Nat.not_lt_zero _)⟩
    show vec y j = 1 * vec y j - 0
    omega
theorem EInv.next {rows : List (List Int)} {w col : Nat} {s : ES} {ps xs : List (List Int)} (I : EInv rows w col s ps xs) (hc : col < w) : ∃ ps' xs', EInv rows w (col + 1) (stepE s col) ps' xs' := by
  have cr := crams I.nz
  cases e : firstNZ (s.rest.map fun x => vec x col) with
  | none =>
    have es : stepE s col = s := by unfold stepE; rw [e]
    rw [es]
    refine ⟨ps, xs, { I with kc := by have := I.kc; omega, lt := fun i hi => by have := I.lt i hi; omega, rs := fun i y hy => ?_ }⟩
    obtain ⟨x, h1, h2, h3, h4⟩ := I.rs i y hy
    refine ⟨x, h1, h2, h3, fun j hj => ?_⟩
    by_cases g : j = col
    · rw [firstNZ, List.findIdx?_eq_none_iff] at e
      have q := e (vec y col) (List.mem_map.mpr ⟨y, List.mem_of_getElem? hy, rfl⟩)
      rw [g]
      simpa using q
    · exact h4 j (by omega)
  | some a =>
    rw [firstNZ, List.findIdx?_eq_some_iff_getElem] at e
    obtain ⟨ha, hn, _⟩ := e
    rw [List.length_map] at ha
    rw [List.getElem_map] at hn
    have hp : s.rest[a]? = some (s.rest[a]'ha) := List.getElem?_eq_getElem ha
    have eD : s.rest.getD a [] = s.rest[a]'ha := getD_of hp
    have es : stepE s col = { cols := s.cols ++ [col], done := s.done.map (fun y => clrF y (s.rest[a]'ha) col s.last) ++ [s.rest[a]'ha], rest := (s.rest.take a ++ s.rest.drop (a + 1)).map (fun y => clrF y (s.rest[a]'ha) col s.last), last := vec (s.rest[a]'ha) col } := by
      have e' : firstNZ (s.rest.map fun x => vec x col) = some a := by
        rw [firstNZ, List.findIdx?_eq_some_iff_getElem]
        rename_i h3
        exact ⟨by rw [List.length_map]; exact ha, by rw [List.getElem_map]; exact hn, h3⟩
      unfold stepE
      rw [e']
      dsimp only
      rw [eD]
    rw [es]
    generalize s.rest[a]'ha = p at *
    have pn : vec p col ≠ 0 := by simpa using hn
    obtain ⟨x, hx, pl, pF, p0⟩ := I.rs a p hp
    -- rows and columns
    have hcl : ∀ i, i < ps.length → colsOf (s.cols ++ [col]) i = colsOf s.cols i := fun i hi => getD_left (by rw [I.lc]; exact hi)
    have hck : colsOf (s.cols ++ [col]) ps.length = col := by
      unfold colsOf
      rw [← I.lc]
      exact getD_last
    have hrl : ∀ i, i < ps.length → rowsOf (ps ++ [x]) i = rowsOf ps i := fun i hi => by
      unfold rowsOf
      rw [getD_left hi]
    have hrk : rowsOf (ps ++ [x]) ps.length = vec x := by
      unfold rowsOf
      rw [getD_last]
    generalize hC : colsOf (s.cols ++ [col]) = C at *
    generalize hR : rowsOf (ps ++ [x]) = R at *
    have eDm : ∀ m, m ≤ ps.length → D C m R = D (colsOf s.cols) m (rowsOf ps) := fun m hm => D_congr fun i hi j hj => by rw [hcl j (by omega), hrl i (by omega)]
    have eF : ∀ z j, F C ps.length R z j = F (colsOf s.cols) ps.length (rowsOf ps) z j := fun z j => F_congr hcl hrl j
    have eG : ∀ i, i < ps.length → ∀ j, G C ps.length R i j = G (colsOf s.cols) ps.length (rowsOf ps) i j := fun i hi j => G_congr hcl hrl hi j
    have nz' : ∀ m, m ≤ ps.length → D C m R ≠ 0 := fun m hm => by rw [eDm m hm]; exact I.nz m hm
    have cr' : Cram C ps.length R := crams nz'
    have dk : D C (ps.length + 1) R = vec p col := by
      rw [D_F, hrk, hck, eF, pF col (by omega)]
    have dl : s.last = D C ps.length R := by rw [I.last, eDm _ (Nat.le_refl _)]
    have nk : D C (ps.length + 1) R ≠ 0 := by rw [dk]; exact pn
    have inj : ∀ i, i < ps.length → C i ≠ C ps.length := fun i hi => by
      rw [hck, hcl i hi]
      have := I.lt i hi
      omega
    have pF' : ∀ j, j ≤ w → vec p j = F C ps.length R (R ps.length) j := fun j hj => by rw [hrk, eF, pF j hj]
    have l0 : s.last ≠ 0 := by rw [dl]; exact nz' _ (Nat.le_refl _)
    have xl : (ps ++ [x]).length = ps.length + 1 := by rw [List.length_append]; rfl
    have aX : a < xs.length := (List.getElem?_eq_some_iff.mp hx).1
    refine ⟨ps ++ [x], xs.take a ++ xs.drop (a + 1), ?_, ?_, ?_, ?_, ?_, ?_, ?_, ?_, ?_, ?_, ?_⟩
    · refine List.Perm.trans ?_ I.perm
      have e1 : xs = xs.take a ++ x :: xs.drop (a + 1) := by
        have e2 : xs.drop a = x :: xs.drop (a + 1) := by
          rw [List.drop_eq_getElem_cons aX]
          rw [List.getElem?_eq_getElem aX] at hx
          rw [Option.some.inj hx]
        rw [← e2, List.take_append_drop]
      rw [List.append_assoc]
      refine List.Perm.append_left ps ?_
      refine List.Perm.trans ?_ (List.Perm.of_eq e1.symm)
      show (x :: (xs.take a ++ xs.drop (a + 1))).Perm _
      exact List.perm_middle.symm
    · show (s.cols ++ [col]).length = (ps ++ [x]).length
      rw [List.length_append, List.length_append, I.lc]
      rfl
    · show (s.done.map _ ++ [p]).length = (ps ++ [x]).length
      rw [List.length_append, List.length_map, xl, I.ld]
      rfl
    · show ((s.rest.take a ++ s.rest.drop (a + 1)).map _).length = (xs.take a ++ xs.drop (a + 1)).length
      rw [List.length_map, List.length_append, List.length_append, List.length_take, List.length_take, List.length_drop, List.length_drop, I.lr]
    · rw [xl]
      have := I.kc
      omega
    · intro i hi
      show colsOf (s.cols ++ [col]) i < col + 1
      rw [hC]
      by_cases g : i < ps.length
      · rw [hcl i g]
        have := I.lt i g
        omega
      · rw [show i = ps.length by omega, hck]
        omega
    · intro i j hij hj
      show colsOf (s.cols ++ [col]) i < colsOf (s.cols ++ [col]) j
      rw [hC, hcl i (by omega)]
      by_cases g : j < ps.length
      · rw [hcl j g]
        exact I.inc i j hij g
      · rw [show j = ps.length by omega, hck]
        exact I.lt i (by omega)
    · intro m hm
      show D (colsOf (s.cols ++ [col])) m (rowsOf (ps ++ [x])) ≠ 0
      rw [hC, hR]
      by_cases g : m ≤ ps.length
      · exact nz' m g
      · rw [show m = ps.length + 1 by omega]
        exact nk
    · show vec p col = D (colsOf (s.cols ++ [col])) (ps ++ [x]).length (rowsOf (ps ++ [x]))
      rw [hC, hR, xl, dk]
    · intro i y hy
      show y.length = w + 1 ∧ ∀ j, j ≤ w → vec y j = G (colsOf (s.cols ++ [col])) (ps ++ [x]).length (rowsOf (ps ++ [x])) i j
      rw [hC, hR, xl]
      have hy' : (s.done.map (fun y => clrF y p col s.last) ++ [p])[i]? = some y := hy
      by_cases g : i < s.done.length
      · rw [List.getElem?_append_left (by rw [List.length_map]; exact g), List.getElem?_map] at hy'
        have hd : s.done[i]? = some (s.done[i]'g) := List.getElem?_eq_getElem g
        rw [hd] at hy'
        obtain rfl := Option.some.inj hy'
        obtain ⟨yl, yG⟩ := I.dn i _ hd
        refine ⟨by rw [clrF_len (by rw [yl, pl]), yl], fun j hj => ?_⟩
        have gi : i < ps.length := by rw [← I.ld]; exact g
        have q := stepG cr' (nz' _ (Nat.le_refl _)) nk inj gi j
        have e1 : vec (s.done[i]'g) j = G C ps.length R i j := by rw [yG j hj, eG i gi]
        have e2 : vec (s.done[i]'g) col = G C ps.length R i (C ps.length) := by rw [yG col (by omega), ← eG i gi, hck]
        rw [clrF_vec (by rw [yl, pl]) (by rw [yl]; omega), e1, e2, pF' j hj, ← dk, ← q, dl]
        exact mul_fdiv (nz' _ (Nat.le_refl _))
      · have il := (List.getElem?_eq_some_iff.mp hy').1
        rw [List.length_append, List.length_map] at il
        have ei : i = s.done.length := by
          have : ([p] : List (List Int)).length = 1 := rfl
          omega
        rw [ei, List.getElem?_append_right (by rw [List.length_map]; exact Nat.le_refl _), List.length_map, Nat.sub_self] at hy'
        obtain rfl := Option.some.inj hy'
        refine ⟨pl, fun j hj => ?_⟩
        rw [ei, I.ld, G_new cr' (nz' _ (Nat.le_refl _)) nk inj, pF' j hj]
    · intro i y hy
      have hy' : ((s.rest.take a ++ s.rest.drop (a + 1)).map fun y => clrF y p col s.last)[i]? = some y := hy
      rw [List.getElem?_map] at hy'
      cases hz : (s.rest.take a ++ s.rest.drop (a + 1))[i]? with
      | none => rw [hz] at hy'; cases hy'
      | some z =>
        rw [hz] at hy'
        obtain rfl := Option.some.inj hy'
        have key : ∃ n : Nat, s.rest[n]? = some z ∧ (xs.take a ++ xs.drop (a + 1))[i]? = xs[n]? := by
          have aR : a < s.rest.length := ha
          by_cases g : i < a
          · rw [List.getElem?_append_left (by rw [List.length_take]; omega), List.getElem?_take_of_lt g] at hz
            exact ⟨i, hz, by rw [List.getElem?_append_left (by rw [List.length_take]; omega), List.getElem?_take_of_lt g]⟩
          · rw [List.getElem?_append_right (by rw [List.length_take]; omega), List.getElem?_drop, List.length_take, Nat.min_eq_left (by omega)] at hz
            exact ⟨_, hz, by rw [List.getElem?_append_right (by rw [List.length_take]; omega), List.getElem?_drop, List.length_take, Nat.min_eq_left (by omega)]⟩
        obtain ⟨n, hn', hxn⟩ := key
        obtain ⟨x', h1, h2, h3, h4⟩ := I.rs n z hn'
        refine ⟨x', hxn.trans h1, by rw [clrF_len (by rw [h2, pl]), h2], fun j hj => ?_, fun j hj => ?_⟩
        · show vec (clrF z p col s.last) j = F (colsOf (s.cols ++ [col])) (ps ++ [x]).length (rowsOf (ps ++ [x])) (vec x') j
          rw [hC, hR, xl]
          have q := stepF cr' (vec x') j
          have e1 : vec z j = F C ps.length R (vec x') j := by rw [h3 j hj, eF]
          have e2 : vec z col = F C ps.length R (vec x') (C ps.length) := by rw [h3 col (by omega), ← eF, hck]
          rw [clrF_vec (by rw [h2, pl]) (by rw [h2]; omega), e1, e2, pF' j hj, ← dk, ← q, dl]
          exact mul_fdiv (nz' _ (Nat.le_refl _))
        · rw [clrF_vec (by rw [h2, pl]) (by rw [h2]; omega)]
          by_cases g : j = col
          · rw [g, Int.mul_comm (vec z col), Int.sub_self, Int.zero_fdiv]
          · rw [h4 j (by omega), p0 j (by omega), Int.mul_zero, Int.mul_zero, Int.sub_self, Int.zero_fdiv]
/-- what elimination leaves -/
theorem elim_inv {rows : List (List Int)} {w : Nat} (hw : ∀ x ∈ rows, x.length = w + 1) : ∀ {col : Nat}, col ≤ w → ∃ ps xs, EInv rows w col (elimN rows col) ps xs
  | 0, _ => ⟨[], rows, einv0 hw⟩
  | col + 1, h => by
    obtain ⟨ps, xs, I⟩ := elim_inv hw (col := col) (by omega)
    exact I.next (by omega)
theorem vec_bound {N : Nat} {x : List Int} (h : ∀ z ∈ x, z.natAbs ≤ N) (j : Nat) : (vec x j).natAbs ≤ N := by
  unfold vec
  rw [List.getD_eq_getElem?_getD]
  cases e : x[j]? with
  | none => exact Nat.zero_le _
  | some z => exact h z (List.mem_of_getElem? e)
/-- all numbers of the state -/
theorem EInv.bound {rows : List (List Int)} {w col : Nat} {s : ES} {ps xs : List (List Int)} (I : EInv rows w col s ps xs) {M L : Nat} (hM : ∀ x ∈ rows, ∀ z ∈ x, z.natAbs ≤ 2 ^ M) (hL : col + 1 ≤ 2 ^ L) :
    (∀ y ∈ s.done, ∀ z ∈ y, z.natAbs ≤ 2 ^ ((M + L) * (col + 1))) ∧ (∀ y ∈ s.rest, ∀ z ∈ y, z.natAbs ≤ 2 ^ ((M + L) * (col + 1))) ∧ s.last.natAbs ≤ 2 ^ ((M + L) * (col + 1)) := by
  have N1 : 1 ≤ 2 ^ M := Nat.one_le_two_pow
  have hps : ∀ i j, (rowsOf ps i j).natAbs ≤ 2 ^ M := fun i j => by
    unfold rowsOf
    refine vec_bound (fun z hz => ?_) j
    rw [List.getD_eq_getElem?_getD] at hz
    cases e : ps[i]? with
    | none => rw [e] at hz; cases hz
    | some x =>
      rw [e] at hz
      exact hM x (I.perm.mem_iff.mp (List.mem_append_left _ (List.mem_of_getElem? e))) z hz
  have hxs : ∀ x ∈ xs, ∀ j, (vec x j).natAbs ≤ 2 ^ M := fun x hx j => vec_bound (fun z hz => hM x (I.perm.mem_iff.mp (List.mem_append_right _ hx)) z hz) j
  have kc := I.kc
  have up : ∀ k, k ≤ col + 1 → fac k * (2 ^ M) ^ k ≤ 2 ^ ((M + L) * (col + 1)) := fun k hk => by
    have a : fac k ≤ 2 ^ (L * k) := fac_le (by omega)
    have b : fac k * (2 ^ M) ^ k ≤ 2 ^ (L * k) * 2 ^ (M * k) := by
      rw [Nat.pow_mul 2 M k]
      exact Nat.mul_le_mul_right _ a
    refine Nat.le_trans b ?_
    rw [← Nat.pow_add]
    refine Nat.pow_le_pow_right (by decide) ?_
    rw [← Nat.add_mul, Nat.add_comm L M]
    exact Nat.mul_le_mul_left _ hk
  have at' : ∀ {y : List Int} {z : Int}, y.length = w + 1 → z ∈ y → ∃ j, j ≤ w ∧ vec y j = z := fun {y z} yl hz => by
    obtain ⟨j, hj, e⟩ := List.getElem_of_mem hz
    exact ⟨j, by omega, by rw [vec_at (List.getElem?_eq_getElem hj), e]⟩
  refine ⟨fun y hy z hz => ?_, fun y hy z hz => ?_, ?_⟩
  · obtain ⟨i, hi, e⟩ := List.getElem_of_mem hy
    obtain ⟨yl, yG⟩ := I.dn i y (by rw [List.getElem?_eq_getElem hi, e])
    obtain ⟨j, hj, ez⟩ := at' yl hz
    rw [← ez, yG j hj]
    exact Nat.le_trans (G_bound N1 (fun i _ j _ => hps i _) fun i _ => hps i j) (up _ (by omega))
  · obtain ⟨i, hi, e⟩ := List.getElem_of_mem hy
    obtain ⟨x, hx, yl, yF, _⟩ := I.rs i y (by rw [List.getElem?_eq_getElem hi, e])
    obtain ⟨j, hj, ez⟩ := at' yl hz
    rw [← ez, yF j hj]
    exact Nat.le_trans (F_bound (fun i _ j _ => hps i _) (fun i _ => hps i j) (fun j _ => hxs x (List.mem_of_getElem? hx) _) (hxs x (List.mem_of_getElem? hx) j)) (up _ (by omega))
  · rw [I.last]
    exact Nat.le_trans (D_bound fun i _ j _ => hps i _) (up _ (by omega))
end Bar

/-! What elimination tells of equations: a solution, or weights under which they contradict. -/
namespace Bar
theorem G_comb {c : Nat → Nat} {k : Nat} {r : Nat → Vec} (inj : ∀ i j, i < k → j < k → c i = c j → i = j) (x : Vec) (j : Nat) : (sum k fun i => x (c i) * G c k r i j) = D c k r * x j - F c k r x j := by
  have e1 : (sum k fun i => x (c i) * G c k r i j) = sum k fun m => D c k (upd r m x) * r m j := by
    have e2 : (sum k fun i => x (c i) * G c k r i j) = sum k fun i => sum k fun m => x (c i) * D c k (upd r m (ind (c i))) * r m j := sum_congr fun i hi => by
      show x (c i) * (sum k fun m => D c k (upd r m (ind (c i))) * r m j) = _
      rw [← sum_mul]
      exact sum_congr fun m _ => (Int.mul_assoc _ _ _).symm
    rw [e2, sum_swap]
    refine sum_congr fun m hm => ?_
    have e3 : (sum k fun i => x (c i) * D c k (upd r m (ind (c i))) * r m j) = (sum k fun i => x (c i) * D c k (upd r m (ind (c i)))) * r m j := by
      rw [Int.mul_comm, ← sum_mul]
      exact sum_congr fun i _ => Int.mul_comm _ _
    rw [e3, ← D_sum hm]
    congr 1
    refine D_congr fun a ha b hb => ?_
    by_cases g : a = m
    · rw [g, upd_self, upd_self]
      rw [sum_one hb fun i hi hib => ?_]
      · show x (c b) * ind (c b) (c b) = x (c b)
        unfold ind
        rw [if_pos rfl, Int.mul_one]
      · show x (c i) * ind (c i) (c b) = 0
        unfold ind
        rw [if_neg (fun z => hib (inj i b hi hb z.symm)), Int.mul_zero]
    · rw [upd_ne g, upd_ne g]
  rw [e1]
  show _ = D c k r * x j - (D c k r * x j - sum k fun i => D c k (upd r i x) * r i j)
  omega
theorem F_row {c : Nat → Nat} {k m : Nat} {r : Nat → Vec} (hm : m < k) (j : Nat) : F c k r (r m) j = 0 := by
  show D c k r * r m j - (sum k fun i => D c k (upd r i (r m)) * r i j) = 0
  rw [sum_one hm fun i hi him => by rw [D_alt (c := c) (k := k) _ i m hi hm him (by rw [upd_self, upd_ne (fun z => him z.symm)]), Int.zero_mul], upd_id]
  omega
theorem EInv.inj {rows : List (List Int)} {w col : Nat} {s : ES} {ps xs : List (List Int)} (I : EInv rows w col s ps xs) (i j : Nat) (hi : i < ps.length) (hj : j < ps.length) (e : colsOf s.cols i = colsOf s.cols j) : i = j := by
  rcases Nat.lt_trichotomy i j with h | h | h
  · have := I.inc i j h hj
    omega
  · exact h
  · have := I.inc j i h hi
    omega
theorem EInv.dn' {rows : List (List Int)} {w col : Nat} {s : ES} {ps xs : List (List Int)} (I : EInv rows w col s ps xs) {i j : Nat} (hi : i < ps.length) (hj : j ≤ w) : vec (s.done.getD i []) j = G (colsOf s.cols) ps.length (rowsOf ps) i j := by
  have h : s.done[i]? = some (s.done[i]'(by rw [I.ld]; exact hi)) := List.getElem?_eq_getElem _
  rw [getD_of h]
  exact (I.dn i _ h).2 j hj
/-- where nothing contradicts, all rows are met -/
theorem EInv.sols {rows : List (List Int)} {w : Nat} {s : ES} {ps xs : List (List Int)} (I : EInv rows w w s ps xs) (hz : ∀ y ∈ s.rest, vec y w = 0) (x : List Int) (hx : x ∈ rows) : (sum ps.length fun i => vec x (colsOf s.cols i) * vec (s.done.getD i []) w) = s.last * vec x w := by
  have e1 : (sum ps.length fun i => vec x (colsOf s.cols i) * vec (s.done.getD i []) w) = sum ps.length fun i => vec x (colsOf s.cols i) * G (colsOf s.cols) ps.length (rowsOf ps) i w := sum_congr fun i hi => by rw [I.dn' hi (Nat.le_refl _)]
  rw [e1, G_comb I.inj, I.last]
  have e2 : F (colsOf s.cols) ps.length (rowsOf ps) (vec x) w = 0 := by
    rcases List.mem_append.mp (I.perm.mem_iff.mpr hx) with h | h
    · obtain ⟨m, hm, e⟩ := List.getElem_of_mem h
      have e3 : rowsOf ps m = vec x := by
        unfold rowsOf
        rw [getD_of (List.getElem?_eq_getElem hm), e]
      rw [← e3]
      exact F_row hm w
    · obtain ⟨m, hm, e⟩ := List.getElem_of_mem h
      have hm' : m < s.rest.length := by rw [I.lr]; exact hm
      obtain ⟨x', h1, _, h3, _⟩ := I.rs m _ (List.getElem?_eq_getElem hm')
      rw [List.getElem?_eq_getElem hm, e] at h1
      cases h1
      rw [← h3 w (Nat.le_refl _)]
      exact hz _ (List.getElem_mem _)
  rw [e2]
  omega
theorem EInv.piv {rows : List (List Int)} {w : Nat} {s : ES} {ps xs : List (List Int)} (I : EInv rows w w s ps xs) {i : Nat} (hi : i < ps.length) : vec (s.done.getD i []) (colsOf s.cols i) = s.last ∧ s.last ≠ 0 := by
  have h := I.lt i hi
  rw [I.dn' hi (by omega), G_at (crams I.nz) hi, if_pos rfl, I.last]
  exact ⟨rfl, I.nz _ (Nat.le_refl _)⟩
/-! ### combinations of rows -/
theorem rev_ind {α : Type} {M : List α → Prop} (h0 : M []) (hs : ∀ l a, M l → M (l ++ [a])) (l : List α) : M l := by
  have h : ∀ m : List α, M m.reverse := by
    intro m
    induction m with
    | nil => exact h0
    | cons a m ih => rw [List.reverse_cons]; exact hs _ _ ih
  have := h l.reverse
  rwa [List.reverse_reverse] at this
def dotI : List Int → List Int → Int
  | u :: us, x :: xs => u * x + dotI us xs
  | _, _ => 0
def Comb (w : Nat) : List (List Int) → Vec → Prop
  | [], y => ∀ j, j ≤ w → y j = 0
  | r :: l, y => ∃ a : Int, Comb w l fun j => y j - a * vec r j
theorem Comb.congr {w : Nat} : ∀ {l : List (List Int)} {y z : Vec}, (∀ j, j ≤ w → y j = z j) → Comb w l y → Comb w l z
  | [], _, _, h, c => fun j hj => by rw [← h j hj]; exact c j hj
  | _ :: _, _, _, h, ⟨a, c⟩ => ⟨a, c.congr fun j hj => by rw [h j hj]⟩
theorem Comb.perm {w : Nat} {l m : List (List Int)} (p : l.Perm m) : ∀ {y : Vec}, Comb w l y → Comb w m y := by
  induction p with
  | nil => exact fun h => h
  | cons x _ ih => exact fun ⟨a, h⟩ => ⟨a, ih h⟩
  | swap x y l => exact fun ⟨a, b, h⟩ => ⟨b, a, h.congr fun j _ => by dsimp only; omega⟩
  | trans _ _ ih1 ih2 => exact fun h => ih2 (ih1 h)
theorem Comb.zero {w : Nat} : ∀ {l : List (List Int)} {y : Vec}, (∀ j, j ≤ w → y j = 0) → Comb w l y
  | [], _, h => h
  | _ :: _, _, h => ⟨0, Comb.zero fun j hj => by rw [h j hj]; omega⟩
theorem Comb.app {w : Nat} : ∀ {l m : List (List Int)} {y z : Vec}, Comb w l y → Comb w m z → Comb w (l ++ m) fun j => y j + z j
  | [], m, y, z, h, k => Comb.congr (y := z) (fun j hj => by rw [h j hj]; omega) k
  | r :: l, m, y, z, ⟨a, h⟩, k => ⟨a, (Comb.app h k).congr fun j _ => by dsimp only; omega⟩
theorem Comb.sum {w : Nat} {a : Nat → Int} : ∀ {l : List (List Int)} {k : Nat}, k = l.length → Comb w l fun j => sum k fun i => a i * vec (l.getD i []) j := by
  intro l
  refine rev_ind (M := fun l => ∀ {k : Nat}, k = l.length → Comb w l fun j => Bar.sum k fun i => a i * vec (l.getD i []) j) ?_ (fun l r ih => ?_) l
  · intro k hk j _; rw [hk]; rfl
  · intro k hk
    rw [hk, List.length_append]
    have h2 : Comb w [r] fun j => a l.length * vec r j := ⟨a l.length, fun j _ => by dsimp only; omega⟩
    refine (Comb.app (ih rfl) h2).congr fun j _ => ?_
    show _ = Bar.sum l.length (fun i => a i * vec ((l ++ [r]).getD i []) j) + a l.length * vec ((l ++ [r]).getD l.length []) j
    rw [getD_last]
    congr 1
    exact sum_congr fun i hi => by rw [getD_left hi]
theorem Comb.mem {w : Nat} {a : Int} {x : List Int} : ∀ {l : List (List Int)}, x ∈ l → Comb w l fun j => a * vec x j
  | y :: l, h => by
    rcases List.mem_cons.mp h with rfl | h
    · exact ⟨a, Comb.zero fun j _ => by dsimp only; omega⟩
    · exact ⟨0, (Comb.mem (a := a) h).congr fun j _ => by dsimp only; omega⟩
theorem Comb.list {w : Nat} : ∀ {l : List (List Int)} {y : Vec}, Comb w l y → ∃ us : List Int, us.length = l.length ∧ ∀ j, j ≤ w → dotI us (l.map fun r => vec r j) = y j
  | [], y, h => ⟨[], rfl, fun j hj => by rw [h j hj]; rfl⟩
  | r :: l, y, ⟨a, h⟩ => by
    obtain ⟨us, e, k⟩ := h.list
    refine ⟨a :: us, by rw [List.length_cons, List.length_cons, e], fun j hj => ?_⟩
    show a * vec r j + dotI us (l.map fun r => vec r j) = y j
    rw [k j hj]
    omega
/-- a row that contradicts gives weights -/
theorem EInv.infeas {rows : List (List Int)} {w : Nat} {s : ES} {ps xs : List (List Int)} (I : EInv rows w w s ps xs) {y : List Int} (hy : y ∈ s.rest) (ny : vec y w ≠ 0) :
    ∃ us : List Int, us.length = rows.length ∧ (∀ j, j < w → dotI us (rows.map fun r => vec r j) = 0) ∧ dotI us (rows.map fun r => vec r w) ≠ 0 := by
  obtain ⟨m, hm, e⟩ := List.getElem_of_mem hy
  obtain ⟨x, hx, _, h3, h4⟩ := I.rs m y (by rw [List.getElem?_eq_getElem hm, e])
  have c1 : Comb w (ps ++ xs) (fun j => F (colsOf s.cols) ps.length (rowsOf ps) (vec x) j) := by
    refine Comb.congr (fun j _ => ?_) (Comb.app (Comb.sum (a := fun i => -D (colsOf s.cols) ps.length (upd (rowsOf ps) i (vec x))) (l := ps) rfl) (Comb.mem (a := D (colsOf s.cols) ps.length (rowsOf ps)) (List.mem_of_getElem? hx)))
    show (sum ps.length fun i => -D (colsOf s.cols) ps.length (upd (rowsOf ps) i (vec x)) * vec (ps.getD i []) j) + D (colsOf s.cols) ps.length (rowsOf ps) * vec x j = D (colsOf s.cols) ps.length (rowsOf ps) * vec x j - sum ps.length fun i => D (colsOf s.cols) ps.length (upd (rowsOf ps) i (vec x)) * vec (ps.getD i []) j
    have e2 : (sum ps.length fun i => -D (colsOf s.cols) ps.length (upd (rowsOf ps) i (vec x)) * vec (ps.getD i []) j) = (-1) * sum ps.length fun i => D (colsOf s.cols) ps.length (upd (rowsOf ps) i (vec x)) * vec (ps.getD i []) j := by
      rw [← sum_mul]
      exact sum_congr fun i _ => by grind
    rw [e2]
    omega
  obtain ⟨us, ul, h⟩ := (c1.perm I.perm).list
  refine ⟨us, ul, fun j hj => ?_, ?_⟩
  · rw [h j (by omega), ← h3 j (by omega)]
    exact h4 j hj
  · rw [h w (Nat.le_refl _), ← h3 w (Nat.le_refl _)]
    exact ny
/-- what all rows keep leaves nothing that contradicts -/
theorem EInv.keep {rows : List (List Int)} {w : Nat} {s : ES} {ps xs : List (List Int)} (I : EInv rows w w s ps xs) {n : Vec} {den : Int} (hd : den ≠ 0) (h : ∀ x ∈ rows, (Bar.sum w fun j => vec x j * n j) = vec x w * den) : ∀ y ∈ s.rest, vec y w = 0 := fun y hy => by
  obtain ⟨m, hm, e⟩ := List.getElem_of_mem hy
  obtain ⟨x, hx, _, h3, h4⟩ := I.rs m y (by rw [List.getElem?_eq_getElem hm, e])
  have k := keeps (c := colsOf s.cols) (k := ps.length) (w := w) (r := rowsOf ps) (x := vec x) (n := n) (den := den) (fun i hi => h _ (by
    rw [getD_of (List.getElem?_eq_getElem hi)]
    exact I.perm.mem_iff.mp (List.mem_append_left _ (List.getElem_mem _)))) (h x (I.perm.mem_iff.mp (List.mem_append_right _ (List.mem_of_getElem? hx))))
  rw [sum_zero fun j hj => by rw [← h3 j (by omega), h4 j hj, Int.zero_mul], ← h3 w (Nat.le_refl _)] at k
  rcases Int.mul_eq_zero.mp k.symm with z | z
  · exact z
  · exact absurd z hd
theorem sum_dotI {n : Vec} : ∀ {xs : List Int} {w : Nat}, w = xs.length → (Bar.sum w fun j => vec xs j * n j) = dotI xs ((List.range w).map n) := by
  intro xs
  refine rev_ind (M := fun xs => ∀ {w : Nat}, w = xs.length → (Bar.sum w fun j => vec xs j * n j) = dotI xs ((List.range w).map n)) ?_ (fun xs x ih => ?_) xs
  · intro w h; rw [h]; rfl
  · intro w h
    have app : ∀ {a c : List Int} {b d : Int}, a.length = c.length → dotI (a ++ [b]) (c ++ [d]) = dotI a c + b * d := by
      intro a
      induction a with
      | nil => intro c b d h; cases c with | nil => show b * d + 0 = 0 + b * d; omega | cons _ _ => cases h
      | cons a as ih =>
        intro c b d h
        cases c with
        | nil => cases h
        | cons c cs =>
          show a * c + dotI (as ++ [b]) (cs ++ [d]) = a * c + dotI as cs + b * d
          rw [ih (by simpa using h)]
          omega
    rw [h, List.length_append, show xs.length + [x].length = xs.length + 1 from rfl, List.range_succ, List.map_append]
    show (Bar.sum xs.length fun j => vec (xs ++ [x]) j * n j) + vec (xs ++ [x]) xs.length * n xs.length = dotI (xs ++ [x]) ((List.range xs.length).map n ++ [n xs.length])
    rw [app (by rw [List.length_map, List.length_range]), ← ih rfl]
    have e1 : vec (xs ++ [x]) xs.length = x := getD_last
    rw [e1]
    congr 1
    exact sum_congr fun j hj => by
      have e2 : vec (xs ++ [x]) j = vec xs j := getD_left hj
      rw [e2]
/-! ### over the rationals -/
def dot (xs ys : List Rat) : Rat := ((xs.zip ys).map fun p => p.1 * p.2).sum
def Scc (k : Rat) (xs : List Int) (vs : List Rat) : Prop := xs.length = vs.length ∧ ∀ (i : Nat) x v, xs[i]? = some x → vs[i]? = some v → (x : Rat) = v * k
theorem Scc.vec {k : Rat} {xs : List Int} {vs : List Rat} (h : Scc k xs vs) {i : Nat} (hi : i < vs.length) : ((vec xs i : Int) : Rat) = vs.getD i 0 * k := by
  have h1 : xs[i]? = some (xs[i]'(by rw [h.1]; exact hi)) := List.getElem?_eq_getElem _
  have h2 : vs[i]? = some (vs[i]'hi) := List.getElem?_eq_getElem _
  rw [vec_at h1, getD_of h2]
  exact h.2 i _ _ h1 h2
def sumR : Nat → (Nat → Rat) → Rat
  | 0, _ => 0
  | k + 1, f => sumR k f + f k
theorem sumR_congr {k : Nat} {f g : Nat → Rat} (h : ∀ i, i < k → f i = g i) : sumR k f = sumR k g := by
  induction k with
  | zero => rfl
  | succ k ih =>
    show sumR k f + f k = sumR k g + g k
    rw [ih fun i hi => h i (by omega), h k (by omega)]
theorem sumR_mul {k : Nat} {a : Rat} {f : Nat → Rat} : sumR k (fun i => a * f i) = a * sumR k f := by
  induction k with
  | zero => exact (Rat.mul_zero a).symm
  | succ k ih =>
    show sumR k (fun i => a * f i) + a * f k = a * (sumR k f + f k)
    rw [ih, Rat.mul_add]
theorem sumR_cast {k : Nat} {f : Nat → Int} : ((sum k f : Int) : Rat) = sumR k fun i => (f i : Rat) := by
  induction k with
  | zero => rfl
  | succ k ih =>
    show ((sum k f + f k : Int) : Rat) = (sumR k fun i => (f i : Rat)) + (f k : Rat)
    rw [Rat.intCast_add, ih]
theorem dot_nil {ys : List Rat} : dot [] ys = 0 := rfl
theorem dot_cons {x y : Rat} {xs ys : List Rat} : dot (x :: xs) (y :: ys) = x * y + dot xs ys := rfl
theorem dot_app {x y : Rat} : ∀ {xs ys : List Rat}, xs.length = ys.length → dot (xs ++ [x]) (ys ++ [y]) = dot xs ys + x * y
  | [], [], _ => by show x * y + 0 = 0 + x * y; grind
  | a :: xs, b :: ys, h => by
    show a * b + dot (xs ++ [x]) (ys ++ [y]) = a * b + dot xs ys + x * y
    rw [dot_app (by simpa using h)]
    grind
  | [], _ :: _, h => by cases h
  | _ :: _, [], h => by cases h
theorem dot_set {v : Rat} : ∀ {xs ys : List Rat} {j : Nat}, xs.length = ys.length → j < ys.length → ys.getD j 0 = 0 → dot xs (ys.set j v) = dot xs ys + xs.getD j 0 * v
  | [], ys, j, h, hj, _ => by have : ys.length = 0 := h.symm; omega
  | x :: xs, [], j, h, hj, _ => by cases h
  | x :: xs, y :: ys, 0, h, hj, e => by
    have e' : y = 0 := e
    show x * v + dot xs ys = x * y + dot xs ys + x * v
    rw [e']
    grind
  | x :: xs, y :: ys, j + 1, h, hj, e => by
    show x * y + dot xs (ys.set j v) = x * y + dot xs ys + xs.getD j 0 * v
    rw [dot_set (xs := xs) (ys := ys) (j := j) (v := v) (by simpa using h) (by simpa using hj) e]
    grind
theorem dot_zero : ∀ {xs : List Rat} {w : Nat}, dot xs (List.replicate w 0) = 0
  | [], _ => rfl
  | x :: xs, 0 => rfl
  | x :: xs, w + 1 => by
    show x * 0 + dot xs (List.replicate w 0) = 0
    rw [dot_zero]
    grind
theorem dot_sumR : ∀ {xs ys : List Rat} {k : Nat}, xs.length = k → ys.length = k → dot xs ys = sumR k fun i => xs.getD i 0 * ys.getD i 0 := by
  intro xs
  refine rev_ind (M := fun xs => ∀ {ys : List Rat} {k : Nat}, xs.length = k → ys.length = k → dot xs ys = sumR k fun i => xs.getD i 0 * ys.getD i 0) ?_ (fun xs x ih => ?_) xs
  · intro ys k h1 h2
    rw [← h1]
    rfl
  · intro ys k h1 h2
    rw [List.length_append] at h1
    have h1' : xs.length + 1 = k := h1
    subst h1'
    have e : ys = ys.take xs.length ++ [ys.getD xs.length 0] := by
      have e2 := List.take_append_drop xs.length ys
      rw [List.drop_eq_getElem_cons (by omega), List.drop_of_length_le (by omega)] at e2
      rw [List.getD_eq_getElem?_getD, List.getElem?_eq_getElem (by omega)]
      exact e2.symm
    have tl : (ys.take xs.length).length = xs.length := by rw [List.length_take]; omega
    rw [e, dot_app tl.symm, ih rfl tl]
    show _ = (sumR xs.length fun i => (xs ++ [x]).getD i 0 * (ys.take xs.length ++ [ys.getD xs.length 0]).getD i 0) + (xs ++ [x]).getD xs.length 0 * (ys.take xs.length ++ [ys.getD xs.length 0]).getD xs.length 0
    rw [getD_last, show (ys.take xs.length ++ [ys.getD xs.length 0]).getD xs.length 0 = ys.getD xs.length 0 from by
      have q := getD_last (l := ys.take xs.length) (a := ys.getD xs.length 0) (d := (0 : Rat))
      rw [tl] at q
      exact q]
    congr 1
    exact sumR_congr fun i hi => by rw [getD_left hi, getD_left (by omega)]
/-- the values of the unknowns -/
def valN (s : ES) (w : Nat) : Nat → List Rat
  | 0 => List.replicate w 0
  | i + 1 => (valN s w i).set (colsOf s.cols i) (Rat.divInt (vec (s.done.getD i []) w) (vec (s.done.getD i []) (colsOf s.cols i)))
theorem valN_len {s : ES} {w : Nat} : ∀ i, (valN s w i).length = w
  | 0 => List.length_replicate
  | i + 1 => by rw [valN, List.length_set, valN_len i]
theorem valN_zero {s : ES} {w j : Nat} : ∀ {i : Nat}, (∀ m, m < i → colsOf s.cols m ≠ j) → (valN s w i).getD j 0 = 0
  | 0, _ => by
    rw [valN, List.getD_eq_getElem?_getD, List.getElem?_replicate]
    split <;> rfl
  | i + 1, h => by
    rw [valN, List.getD_eq_getElem?_getD, List.getElem?_set_ne (h i (by omega)), ← List.getD_eq_getElem?_getD]
    exact valN_zero fun m hm => h m (by omega)
/-- the values meet the equations -/
theorem EInv.sol_ok {rows : List (List Int)} {w : Nat} {s : ES} {ps xs : List (List Int)} (I : EInv rows w w s ps xs) (hz : ∀ y ∈ s.rest, vec y w = 0) {x : List Int} (hx : x ∈ rows) {q : List Rat} {t k : Rat} (k0 : k ≠ 0) (ql : q.length = w) (h : Scc k x (q ++ [t])) : dot q (valN s w ps.length) = t := by
  have step : ∀ i, i ≤ ps.length → dot q (valN s w i) = sumR i fun m => q.getD (colsOf s.cols m) 0 * Rat.divInt (vec (s.done.getD m []) w) (vec (s.done.getD m []) (colsOf s.cols m)) := by
    intro i
    induction i with
    | zero => intro _; exact dot_zero
    | succ i ih =>
      intro hi
      rw [valN, dot_set (by rw [ql, valN_len]) (by rw [valN_len]; exact I.lt i (by omega)) (valN_zero fun m hm e => by have := I.inj m i (by omega) (by omega) e; omega), ih (by omega)]
      rfl
  rw [step _ (Nat.le_refl _)]
  have S := I.sols hz x hx
  have S2 := congrArg (Int.cast (R := Rat)) S
  rw [sumR_cast, Rat.intCast_mul] at S2
  have at1 : ∀ {j : Nat}, j < w → ((vec x j : Int) : Rat) = q.getD j 0 * k := fun {j} hj => by
    rw [h.vec (by rw [List.length_append, ql]; exact Nat.lt_add_right _ hj), getD_left (by rw [ql]; exact hj)]
  have at2 : ((vec x w : Int) : Rat) = t * k := by
    rw [h.vec (by rw [List.length_append, ql]; exact Nat.lt_succ_self _)]
    have e := getD_last (l := q) (a := t) (d := (0 : Rat))
    rw [ql] at e
    rw [e]
  rw [at2] at S2
  by_cases p0 : ps.length = 0
  · rw [p0] at S2 ⊢
    have S3 : (0 : Rat) = (s.last : Rat) * (t * k) := S2
    have l0 : s.last ≠ 0 := by rw [I.last]; exact I.nz _ (Nat.le_refl _)
    have l1 : (s.last : Rat) ≠ 0 := fun z => l0 (by exact_mod_cast z)
    show (0 : Rat) = t
    rcases Rat.mul_eq_zero.mp S3.symm with z | z
    · exact absurd z l1
    · rcases Rat.mul_eq_zero.mp z with z | z
      · exact z.symm
      · exact absurd z k0
  · have l0 := (I.piv (i := 0) (by omega)).2
    have l1 : (s.last : Rat) ≠ 0 := fun z => l0 (by exact_mod_cast z)
    have e1 : (sumR ps.length fun i => ((vec x (colsOf s.cols i) * vec (s.done.getD i []) w : Int) : Rat)) = (k * (s.last : Rat)) * sumR ps.length fun m => q.getD (colsOf s.cols m) 0 * Rat.divInt (vec (s.done.getD m []) w) (vec (s.done.getD m []) (colsOf s.cols m)) := by
      rw [← sumR_mul]
      refine sumR_congr fun i hi => ?_
      rw [Rat.intCast_mul, at1 (I.lt i hi), (I.piv hi).1, Rat.divInt_eq_div]
      grind
    rw [e1] at S2
    generalize (sumR ps.length fun m => q.getD (colsOf s.cols m) 0 * Rat.divInt (vec (s.done.getD m []) w) (vec (s.done.getD m []) (colsOf s.cols m))) = z at *
    have e2 : (k * (s.last : Rat)) * (z - t) = 0 := by grind
    rcases Rat.mul_eq_zero.mp e2 with y | y
    · rcases Rat.mul_eq_zero.mp y with y | y
      · exact absurd y k0
      · exact absurd y l1
    · grind
theorem dotI_sum {α : Type} {g : α → Int} {d : α} : ∀ {us : List Int} {l : List α}, us.length = l.length → dotI us (l.map g) = sum l.length fun i => us.getD i 0 * g (l.getD i d) := by
  intro us
  refine rev_ind (M := fun us => ∀ {l : List α}, us.length = l.length → dotI us (l.map g) = sum l.length fun i => us.getD i 0 * g (l.getD i d)) ?_ (fun us u ih => ?_) us
  · intro l h
    rw [← h]
    rfl
  · intro l h
    rw [List.length_append] at h
    have h' : us.length + 1 = l.length := h
    have app : ∀ {a c : List Int} {b d : Int}, a.length = c.length → dotI (a ++ [b]) (c ++ [d]) = dotI a c + b * d := by
      intro a
      induction a with
      | nil => intro c b d h; cases c with | nil => show b * d + 0 = 0 + b * d; omega | cons _ _ => cases h
      | cons a as ih =>
        intro c b d h
        cases c with
        | nil => cases h
        | cons c cs =>
          show a * c + dotI (as ++ [b]) (cs ++ [d]) = a * c + dotI as cs + b * d
          rw [ih (by simpa using h)]
          omega
    have e : l = l.take us.length ++ [l.getD us.length d] := by
      have e2 := List.take_append_drop us.length l
      rw [List.drop_eq_getElem_cons (by omega), List.drop_of_length_le (by omega)] at e2
      rw [List.getD_eq_getElem?_getD, List.getElem?_eq_getElem (by omega)]
      exact e2.symm
    have tl : (l.take us.length).length = us.length := by rw [List.length_take]; omega
    generalize l.getD us.length d = z at e
    generalize l.take us.length = m at e tl
    subst e
    rw [List.map_append, List.length_append, show m.length + [z].length = m.length + 1 from rfl, show [z].map g = [g z] from rfl, app (by rw [List.length_map, tl]), ih tl.symm]
    show _ = (sum m.length fun i => (us ++ [u]).getD i 0 * g ((m ++ [z]).getD i d)) + (us ++ [u]).getD m.length 0 * g ((m ++ [z]).getD m.length d)
    rw [getD_last, show (us ++ [u]).getD m.length 0 = u from by
      rw [tl]
      exact getD_last]
    congr 1
    exact sum_congr fun i hi => by rw [getD_left hi, getD_left (by omega)]
/-- where the equations contradict, the weights' equations do not -/
theorem dual_ok {R C : List (List Int)} {rq : List (List Rat)} {ts : List Rat} {w : Nat} {s : ES} {ps xs : List (List Int)} (I : EInv R w w s ps xs) {y : List Int} (hy : y ∈ s.rest) (ny : vec y w ≠ 0)
    (rl : R.length = rq.length) (tl : ts.length = rq.length) (ql : ∀ q ∈ rq, q.length = w)
    (hR : ∀ (i : Nat) x q t, R[i]? = some x → rq[i]? = some q → ts[i]? = some t → ∃ k : Int, 0 < k ∧ Scc (k : Rat) x (q ++ [t]))
    (hC : ∀ c ∈ C, ∃ k : Rat, (∃ j, j < w ∧ Scc k c (rq.map (fun q => q.getD j 0) ++ [0])) ∨ Scc k c (ts ++ [1]))
    {s' : ES} {ps' xs' : List (List Int)} (I' : EInv C rq.length rq.length s' ps' xs') : ∀ z ∈ s'.rest, vec z rq.length = 0 := by
  obtain ⟨us, ul, h1, h2⟩ := I.infeas hy ny
  have hp : ∀ i, ∃ k : Int, i < rq.length → Scc (k : Rat) (R.getD i []) (rq.getD i [] ++ [ts.getD i 0]) := fun i => by
    by_cases hi : i < rq.length
    · have a : R[i]? = some (R[i]'(by omega)) := List.getElem?_eq_getElem _
      have b : rq[i]? = some (rq[i]'hi) := List.getElem?_eq_getElem _
      have c : ts[i]? = some (ts[i]'(by omega)) := List.getElem?_eq_getElem _
      obtain ⟨k, _, hk⟩ := hR i _ _ _ a b c
      refine ⟨k, fun _ => ?_⟩
      rw [getD_of a, getD_of b, getD_of c]
      exact hk
    · exact ⟨0, fun h => absurd h hi⟩
  obtain ⟨p, hp⟩ := Classical.axiomOfChoice hp
  have hql : ∀ i, i < rq.length → (rq.getD i []).length = w := fun i hi => by
    rw [getD_of (List.getElem?_eq_getElem hi)]
    exact ql _ (List.getElem_mem _)
  have atj : ∀ i j, i < rq.length → j < w → ((vec (R.getD i []) j : Int) : Rat) = (rq.getD i []).getD j 0 * p i := fun i j hi hj => by
    rw [(hp i hi).vec (by rw [List.length_append, hql i hi]; exact Nat.lt_add_right _ hj), getD_left (by rw [hql i hi]; exact hj)]
  have atw : ∀ i, i < rq.length → ((vec (R.getD i []) w : Int) : Rat) = ts.getD i 0 * p i := fun i hi => by
    rw [(hp i hi).vec (by rw [List.length_append, hql i hi]; exact Nat.lt_succ_self _)]
    have e := getD_last (l := rq.getD i []) (a := ts.getD i 0) (d := (0 : Rat))
    rw [hql i hi] at e
    rw [e]
  refine I'.keep (n := fun i => us.getD i 0 * p i) h2 fun c hc => ?_
  have back : ∀ {a b : Int}, (a : Rat) = (b : Rat) → a = b := fun {a b} h => by exact_mod_cast h
  apply back
  rw [sumR_cast, Rat.intCast_mul]
  obtain ⟨k, hk⟩ := hC c hc
  rcases hk with ⟨j, hj, hk⟩ | hk
  · have l1 : (rq.map fun q => q.getD j 0).length = rq.length := List.length_map ..
    have e0 : ((vec c rq.length : Int) : Rat) = 0 := by
      rw [hk.vec (by rw [List.length_append, l1]; exact Nat.lt_succ_self _)]
      have e := getD_last (l := rq.map fun q => q.getD j 0) (a := (0 : Rat)) (d := (0 : Rat))
      rw [l1] at e
      rw [e]
      grind
    have e1 : (sumR rq.length fun i => ((vec c i * (us.getD i 0 * p i) : Int) : Rat)) = k * sumR rq.length fun i => ((us.getD i 0 * vec (R.getD i []) j : Int) : Rat) := by
      rw [← sumR_mul]
      refine sumR_congr fun i hi => ?_
      have e2 : ((vec c i : Int) : Rat) = (rq.getD i []).getD j 0 * k := by
        rw [hk.vec (by rw [List.length_append, l1]; exact Nat.lt_add_right _ hi), getD_left (by rw [l1]; exact hi)]
        have b : rq[i]? = some (rq[i]'hi) := List.getElem?_eq_getElem _
        rw [List.getD_eq_getElem?_getD, List.getElem?_map, b, getD_of b]
        rfl
      rw [Rat.intCast_mul, Rat.intCast_mul, Rat.intCast_mul, e2, atj i j hi hj]
      grind
    have e3 := h1 j hj
    rw [dotI_sum (d := []) ul] at e3
    rw [e0, e1, ← sumR_cast, ← rl, e3]
    grind
  · have e0 : ((vec c rq.length : Int) : Rat) = k := by
      rw [hk.vec (by rw [List.length_append, tl]; exact Nat.lt_succ_self _)]
      have e := getD_last (l := ts) (a := (1 : Rat)) (d := (0 : Rat))
      rw [tl] at e
      rw [e]
      grind
    have e1 : (sumR rq.length fun i => ((vec c i * (us.getD i 0 * p i) : Int) : Rat)) = k * sumR rq.length fun i => ((us.getD i 0 * vec (R.getD i []) w : Int) : Rat) := by
      rw [← sumR_mul]
      refine sumR_congr fun i hi => ?_
      have e2 : ((vec c i : Int) : Rat) = ts.getD i 0 * k := by
        rw [hk.vec (by rw [List.length_append, tl]; exact Nat.lt_add_right _ hi), getD_left (by rw [tl]; exact hi)]
      rw [Rat.intCast_mul, Rat.intCast_mul, Rat.intCast_mul, e2, atw i hi]
      grind
    rw [e0, e1, ← sumR_cast, ← rl, dotI_sum (d := []) ul]
end Bar

/-! own: zip(*xs) of any number of lists -/
namespace ZpN
open PySem PySem.Spec PyProof.Rows L2
theorem newCall_zipN (as : List Value) : checkBuiltinCall "zip.__new__" ⟨.type "zip" :: as, []⟩ = pure () := by
  cases as with
  | nil => kernel_rfl
  | cons a as => kernel_rfl
theorem typeCall_zipN (as : List Value) : checkTypeCall "zip" ⟨as, []⟩ = pure () := by kernel_rfl
theorem args_initN (o : Value) (as : List Value) : argsOk "object.__init__" ⟨o :: as, []⟩ := by
  unfold argsOk
  kernel_rfl
/-- a for over a list, the state told -/
theorem forIn_steps {M : Model} {A : Around} {E : Value → Shared → Prop} {α β : Type} {f : α → β → Sem (ForInStep β)} {P : Nat → β → Shared → Prop} : ∀ (l : List α) (i : Nat) (b : β) (s : Shared) (Q : β → Shared → Prop), P i b s →
    (∀ (j : Nat) x, l[j]? = some x → ∀ b s, P (i + j) b s → wpAny M A (f x b) (fun r s' => ∃ b', r = .yield b' ∧ P (i + j + 1) b' s') E s) → (∀ b s, P (i + l.length) b s → Q b s) → wpAny M A (forIn l b f) Q E s
  | [], i, b, s, Q, h, _, hq => by
    rw [List.forIn_nil]
    exact wpAny_pure (hq b s h)
  | x :: l, i, b, s, Q, h, hs, hq => by
    rw [List.forIn_cons]
    refine wpAny_bind (wpAny_mono (hs 0 x rfl b s h) (fun r s' hr => ?_) fun _ _ z => z)
    obtain ⟨b', rfl, hp⟩ := hr
    refine forIn_steps l (i + 1) b' s' Q hp (fun j y hy b2 s2 hp2 => ?_) fun b2 s2 hp2 => hq b2 s2 (by rw [List.length_cons, show i + (l.length + 1) = i + 1 + l.length by omega]; exact hp2)
    have := hs (j + 1) y hy b2 s2 (by rw [show i + (j + 1) = i + 1 + j by omega]; exact hp2)
    rw [show i + (j + 1) + 1 = i + 1 + j + 1 by omega] at this
    exact this
/-- a list (or, b, a tuple) and an iterator over it -/
def SIt (tb : Bool) (h : Heap) (it l : Addr) (i : Nat) : Prop := ∃ o, h.get? it = some o ∧ (o.cls = .type (cond tb "tuple_iterator" "list_iterator") ∧ o.data = .fields #[.ref l, .int i 0])
def SIs (tb : Bool) (h : Heap) (l : Addr) (items : Array Value) : Prop := cond tb (h.IsTuple l items) (h.IsList l items)
theorem SIs.mv {tb : Bool} {h h' : Heap} {l : Addr} {items : Array Value} (x : SIs tb h l items) (k : ∀ o, h.get? l = some o → h'.get? l = some o) : SIs tb h' l items := by
  cases tb
  · exact Heap.IsList.at (show h.IsList l items from x) k
  · exact Heap.IsTuple.at (show h.IsTuple l items from x) k
section
variable {tb : Bool} {prog : Program} {w : World} {A : Around} {E : Value → Shared → Prop} {s : Shared} {it l : Addr} {i : Nat} {items : Array Value} {x : Value} {Q : Value → Shared → Prop}
theorem nextS_item (hit : SIt tb s.heap it l i) (hl : SIs tb s.heap l items) (hx : items[i]? = some x) (hQ : ∀ h', SIt tb h' it l (i + 1) → Heap.SameBut it s.heap h' → Q x { s with heap := h' }) : wpAny (model prog w) A (Builtin.SmallTypes.nextOf (.ref it)) Q E s := by
  cases tb
  · exact wpAny_nextOf_list_item hit hl hx hQ
  · exact wpAny_nextOf_tuple_item hit hl hx hQ
theorem nextS_end (hh : A.handled = none) (hit : SIt tb s.heap it l i) (hl : SIs tb s.heap l items) (hx : items[i]? = none) (hE : ∀ h' e, Heap.ExtBut it s.heap h' → (∃ o, h'.get? e = some o ∧ o.cls = .type "StopIteration") → E (.ref e) { s with heap := h' }) : wpAny (model prog w) A (Builtin.SmallTypes.nextOf (.ref it)) Q E s := by
  cases tb
  · exact wpAny_nextOf_list_end hh hit hl hx hE
  · exact wpAny_nextOf_tuple_end hh hit hl hx hE
def itO (tb : Bool) (l : Addr) : Obj := { cls := .type (cond tb "tuple_iterator" "list_iterator"), data := .fields #[.ref l, .int 0 0] }
theorem iterS (hl : SIs tb s.heap l items) (q : Q (.ref s.heap.objs.size) { s with heap := s.heap.push (itO tb l) }) : wpAny (model prog w) A (pyIter (.ref l)) Q E s := by
  cases tb
  · exact (begins_list l items).iter prog w A E s Q hl q
  · exact (begins_tuple l items).iter prog w A E s Q hl q
theorem itO_free : (itO tb l).isFreed = false := by cases tb <;> rfl
end
/-- the state of a zip of n lists at L 0 .. whose cells begin at n0 -/
structure ZN (tb : Bool) (n0 n : Nat) (L : Nat → Addr) (i : Nat) (f0 : Value) (f1 : Bool) (h : Heap) : Prop where
  z : h.get? (n0 + n + 2) = some { cls := .type "zip", data := .fields #[f0, .bool f1, .bool false, .ref (n0 + n), .ref (n0 + n + 1)] }
  ti : h.get? (n0 + n) = some { cls := .type "tuple", data := .seq ((List.range n).map fun k => Value.ref (n0 + k)).toArray }
  to : ∃ vs : Array Value, vs.size = n ∧ h.get? (n0 + n + 1) = some { cls := .type "tuple", data := .seq vs }
  it : ∀ k, k < n → SIt tb h (n0 + k) (L k) i
theorem iterLoopN {tb : Bool} {prog : Program} {w : World} {A : Around} {E : Value → Shared → Prop} {s : Shared} {L : List Addr} {Q : Array Value → Shared → Prop} (hL : ∀ l ∈ L, ∃ items, SIs tb s.heap l items)
    (hQ : ∀ h', (∀ c o, s.heap.get? c = some o → h'.get? c = some o) → h'.objs.size = s.heap.objs.size + L.length → (∀ (k : Nat) l, L[k]? = some l → SIt tb h' (s.heap.objs.size + k) l 0) → Q ((List.range L.length).map fun k => Value.ref (s.heap.objs.size + k)).toArray { s with heap := h' }) :
    wpAny (model prog w) A (forIn (L.map Value.ref) (#[] : Array Value) fun x its => do
      let y ← holding its.toList (pyIter x)
      pure (ForInStep.yield (its.push y))) Q E s := by
  refine forIn_steps (P := fun k (b : Array Value) s' => b = ((List.range k).map fun j => Value.ref (s.heap.objs.size + j)).toArray ∧ ∃ h', s' = { s with heap := h' } ∧ (∀ c o, s.heap.get? c = some o → h'.get? c = some o) ∧ h'.objs.size = s.heap.objs.size + k ∧ ∀ (j : Nat) l, j < k → L[j]? = some l → SIt tb h' (s.heap.objs.size + j) l 0) (L.map Value.ref) 0 _ s _ ⟨rfl, s.heap, rfl, fun _ _ e => e, rfl, fun j l hj => absurd hj (Nat.not_lt_zero _)⟩ (fun j x hx b s' hp => ?_) fun b s' hp => ?_
  · rw [Nat.zero_add] at hp ⊢
    obtain ⟨rfl, h', rfl, hk, hs, hI⟩ := hp
    rw [List.getElem?_map] at hx
    cases e : L[j]? with
    | none => rw [e] at hx; cases hx
    | some l =>
      rw [e] at hx
      cases hx
      obtain ⟨items, hl⟩ := hL l (List.mem_of_getElem? e)
      have hl' : SIs tb h' l items := hl.mv fun o e => hk _ _ e
      refine wpAny_bind (wpAny_holding (iterS (s := { s with heap := h' }) hl' ?_))
      refine wpAny_pure ⟨_, rfl, ?_, _, rfl, fun c o e => Heap.get?_push_of_some _ (hk c o e), by rw [Heap.size_push, hs]; omega, fun i l2 hi h2 => ?_⟩
      · show (((List.range j).map fun k => Value.ref (s.heap.objs.size + k)).toArray.push (Value.ref h'.objs.size)) = _
        rw [hs, List.range_succ, List.map_append]
        simp
      · by_cases g : i < j
        · obtain ⟨o, e1, r⟩ := hI i l2 g h2
          exact ⟨o, Heap.get?_push_of_some _ e1, r⟩
        · have ei : i = j := by omega
          subst ei
          rw [e] at h2
          cases h2
          rw [← hs]
          exact ⟨_, Heap.get?_push_size _ itO_free, rfl, rfl⟩
  · rw [Nat.zero_add, List.length_map] at hp
    obtain ⟨rfl, h', rfl, hk, hs, hI⟩ := hp
    exact hQ h' hk hs fun k l hl => hI k l (List.getElem?_eq_some_iff.mp hl).1 hl
def MadeZ (tb : Bool) (n0 n : Nat) (L : Nat → Addr) (h h' : Heap) : Prop := ZN tb n0 n L 0 .none false h' ∧ h'.objs.size = n0 + n + 3 ∧ ∀ c o, h.get? c = some o → h'.get? c = some o
theorem meets_zipN (tb : Bool) (L : List Addr) : Meets (Builtin.«zip.__new__» ⟨.type "zip" :: L.map Value.ref, []⟩) (fun _ R s => (∀ l ∈ L, ∃ items, SIs tb s.heap l items) ∧ L.length ≤ 1000 ∧
    ∀ h', MadeZ tb s.heap.objs.size L.length (fun k => L.getD k 0) s.heap h' → R (.ok (.ret (.ref (s.heap.objs.size + L.length + 2)))) { s with heap := h' }) :=
  .of_wp fun prog w A R s h => by
    obtain ⟨hp, g, d, tk, os⟩ := s
    obtain ⟨h1, l1, h⟩ := h
    have hsub := sub_zip
    unfold Builtin.«zip.__new__»
    unfold Builtin.SmallTypes.newClass
    wp_walk
    show wpAny _ _ (forIn (L.map Value.ref) (#[] : Array Value) fun x its => do
      let y ← holding its.toList (pyIter x)
      pure (ForInStep.yield (its.push y))) _ _ _
    refine iterLoopN (s := ⟨hp, g, d, tk, os⟩) h1 fun h' hk hs hI => ?_
    dsimp only at hk hs hI ⊢
    refine wpAny_pure ?_
    have b1000 : (1000 : Nat) ≤ sizeLine := by decide
    refine wpAny_bind (wpAny_newTuple ?_ (by simp; omega))
    refine wpAny_bind (wpAny_newTuple ?_ (by simp; omega))
    dsimp only
    unfold Builtin.SmallTypes.newRecord
    refine wpAny_bind (wpAny_newObj_type ?_ (by first | (show (5 : Nat) ≤ sizeLine; decide) | (unfold sizeOk; show (5 : Nat) ≤ sizeLine; decide) | (simp [sizeOk, Builtin.SmallTypes.ownedTupleFields]; omega)))
    refine wpAny_pure ⟨_, rfl, ?_⟩
    dsimp only
    have z1 : (h'.push { cls := .type "tuple", data := .seq ((List.range L.length).map fun k => Value.ref (hp.objs.size + k)).toArray }).objs.size = hp.objs.size + L.length + 1 := by rw [Heap.size_push, hs]
    generalize hT : h'.push { cls := .type "tuple", data := .seq ((List.range L.length).map fun k => Value.ref (hp.objs.size + k)).toArray } = hT' at *
    have gT : hT'.get? (hp.objs.size + L.length) = some { cls := .type "tuple", data := .seq ((List.range L.length).map fun k => Value.ref (hp.objs.size + k)).toArray } := by
      rw [← hT, ← hs]
      exact Heap.get?_push_size _ rfl
    have kT : ∀ c o, h'.get? c = some o → hT'.get? c = some o := fun c o e => by
      rw [← hT]
      exact Heap.get?_push_of_some _ e
    generalize hvs : (List.map (fun x => Value.none) (List.map (fun k => Value.ref (hp.objs.size + k)) (List.range L.length))) = vs at *
    have vl : vs.length = L.length := by rw [← hvs, List.length_map, List.length_map, List.length_range]
    have z2 : (hT'.push { cls := .type "tuple", data := .seq vs.toArray }).objs.size = hp.objs.size + L.length + 2 := by rw [Heap.size_push, z1]
    generalize hO : hT'.push { cls := .type "tuple", data := .seq vs.toArray } = hO' at *
    have gO : hO'.get? (hp.objs.size + L.length + 1) = some { cls := .type "tuple", data := .seq vs.toArray } := by
      rw [← hO, ← z1]
      exact Heap.get?_push_size _ rfl
    have kO : ∀ c o, hT'.get? c = some o → hO'.get? c = some o := fun c o e => by
      rw [← hO]
      exact Heap.get?_push_of_some _ e
    rw [z2, hs, z1]
    refine h _ ⟨⟨?_, ?_, ⟨vs.toArray, by simp [vl], ?_⟩, fun k hk' => ?_⟩, by rw [Heap.size_push, z2], fun c o e => Heap.get?_push_of_some _ (kO _ _ (kT _ _ (hk c o e)))⟩
    · rw [← z2]
      exact Heap.get?_push_size _ rfl
    · exact Heap.get?_push_of_some _ (kO _ _ gT)
    · exact Heap.get?_push_of_some _ gO
    · have e : L[k]? = some (L[k]'hk') := List.getElem?_eq_getElem hk'
      obtain ⟨o, e1, r⟩ := hI k _ e
      rw [List.getD_eq_getElem?_getD, e]
      exact ⟨o, Heap.get?_push_of_some _ (kO _ _ (kT _ _ e1)), r⟩
theorem zip_beginsN {tb : Bool} {prog : Program} {w : World} {A : Around} {E : Value → Shared → Prop} {s : Shared} {L : List Addr} {Q : Value → Shared → Prop} (h1 : ∀ l ∈ L, ∃ items, SIs tb s.heap l items) (l1 : L.length ≤ 1000)
    (h : ∀ h', MadeZ tb s.heap.objs.size L.length (fun k => L.getD k 0) s.heap h' → Q (.ref (s.heap.objs.size + L.length + 2)) { s with heap := h' }) :
    wpAny (model prog w) A (call (.type "zip") (L.map Value.ref)) Q E s := by
  refine callType_new F.called_zip (by decide) (typeCall_zipN _) (newCall_zipN _) (fun obj => args_initN obj _) F.entry_zip_new (meets_zipN tb L) ⟨h1, l1, fun h' hm => ?_⟩
  exact ⟨⟨_, hm.1.z, rfl⟩, h h' hm⟩
section
variable {tb : Bool} {prog : Program} {w : World} {A : Around} {E : Value → Shared → Prop} {s : Shared} {n0 n i : Nat} {L : Nat → Addr} {f1 : Bool} {X : Nat → Array Value} {Y : Nat → Value}
theorem itsN {n0 n : Nat} (hn : 0 < n) : (((List.range n).map fun k => Value.ref (n0 + k)).toArray).isEmpty = false := by
  simp [Array.isEmpty]
  omega
theorem nextN_held {T : Addr} {oT : Obj} {Q : Value → Shared → Prop} (hn : 0 < n) (n1 : n ≤ 1000) (Z : ZN tb n0 n L i (rawInt T) f1 s.heap) (hT : s.heap.get? T = some oT) (hL : ∀ k, k < n → SIs tb s.heap (L k) (X k)) (out : ∀ k, k < n → L k < n0 ∨ n0 + n + 3 ≤ L k) (hY : ∀ k, k < n → (X k)[i]? = some (Y k))
    (hQ : ∀ h', ZN tb n0 n L (i + 1) (rawInt T) true h' → h'.get? s.heap.objs.size = some { cls := .type "tuple", data := .seq ((List.range n).map Y).toArray } → h'.objs.size = s.heap.objs.size + 1 →
      (∀ c o, (c < n0 ∨ n0 + n + 3 ≤ c) → s.heap.get? c = some o → h'.get? c = some o) → Q (.ref s.heap.objs.size) { s with heap := h' }) :
    wpAny (model prog w) A (Builtin.«zip.__next__» ⟨[.ref (n0 + n + 2)], []⟩) (fun fin s' => ∃ v, fin = .done (.ret v) ∧ Q v s') E s := by
  have hz : IsZipHeld s.heap (n0 + n + 2) (n0 + n) (n0 + n + 1) T f1 := Z.z
  show wpAny _ _ (field (.ref (n0 + n + 2)) 2 >>= _) _ _ _
  refine wpAny_bind (wpAny_field hz rfl (x := .bool false) rfl ?_)
  show wpAny _ _ (field (.ref (n0 + n + 2)) 3 >>= _) _ _ _
  refine wpAny_bind (wpAny_field hz rfl (x := .ref (n0 + n)) rfl ?_)
  refine wpAny_bind (wpAny_seqItems Z.ti rfl ?_)
  dsimp only
  rw [itsN hn]
  simp only [Bool.false_eq_true, if_false]
  refine wpAny_bind (wpAny_tupleHeld_zip hz hT fun h₁ hz₁ hs₁ => ?_)
  simp only [Bool.false_eq_true, if_false]
  refine wpAny_bind ?_
  rw [← Array.forIn_toList]
  rw [show (List.map (fun k => Value.ref (n0 + k)) (List.range n)).toArray.toList = List.map (fun k => Value.ref (n0 + k)) (List.range n) from rfl]
  have lr : (List.map (fun k => Value.ref (n0 + k)) (List.range n)).length = n := by rw [List.length_map, List.length_range]
  have base : ZN tb n0 n L i (rawInt T) true h₁ := ⟨hz₁, hs₁.extBut _ _ (by ((try unfold PySem.Addr at *); omega)) Z.ti, by
    obtain ⟨vs, v1, v2⟩ := Z.to
    exact ⟨vs, v1, hs₁.extBut _ _ (by ((try unfold PySem.Addr at *); omega)) v2⟩, fun k hk => by
    obtain ⟨o, e, r⟩ := Z.it k hk
    exact ⟨o, hs₁.extBut _ _ (show n0 + k ≠ n0 + n + 2 by ((try unfold PySem.Addr at *); omega)) e, r⟩⟩
  refine forIn_steps (P := fun j (b : Option Fin × Array Value) s' => b = (none, ((List.range j).map Y).toArray) ∧ ∃ h', s' = { s with heap := h' } ∧ h'.objs.size = s.heap.objs.size ∧ (∀ c o, (c < n0 ∨ n0 + n ≤ c) → h₁.get? c = some o → h'.get? c = some o) ∧ (∀ k, k < n → SIt tb h' (n0 + k) (L k) (if k < j then i + 1 else i))) _ 0 _ _ _ ⟨rfl, h₁, rfl, hs₁.1, fun _ _ _ e => e, fun k hk => by rw [if_neg (by omega)]; exact base.it k hk⟩ (fun j x hx b s' hp => ?_) fun b s' hp => ?_
  · rw [Nat.zero_add] at hp ⊢
    obtain ⟨rfl, h', rfl, hsz, hk, hI⟩ := hp
    have jn : j < n := by
      have q := (List.getElem?_eq_some_iff.mp hx).1
      rw [lr] at q
      exact q
    have ex : x = .ref (n0 + j) := by
      rw [List.getElem?_map, List.getElem?_range jn] at hx
      exact (Option.some.inj hx).symm
    subst ex
    have it := hI j jn
    rw [if_neg (Nat.lt_irrefl j)] at it
    have hl : SIs tb h' (L j) (X j) := by
      exact (hL j jn).mv fun o e => hk _ _ (by have := out j jn; ((try unfold PySem.Addr at *); omega)) (hs₁.extBut _ _ (by have := out j jn; ((try unfold PySem.Addr at *); omega)) e)
    refine wpAny_bind (wpAny_holding ?_)
    show wpAny _ _ (Builtin.SmallTypes.nextOf (.ref (n0 + j)) >>= _) _ _ _
    refine wpAny_bind (nextS_item (s := { s with heap := h' }) it hl (hY j jn) fun h2 it2 hs2 => wpAny_pure ?_)
    refine wpAny_pure ⟨_, rfl, ?_, h2, rfl, hs2.1.trans hsz, fun c o hc e => hs2.extBut _ _ (by ((try unfold PySem.Addr at *); omega)) (hk c o hc e), fun k hk2 => ?_⟩
    · show (none, ((List.range j).map Y).toArray.push (Y j)) = _
      rw [List.range_succ, List.map_append]
      simp
    · by_cases g : k = j
      · subst g
        rw [if_pos (Nat.lt_succ_self _)]
        exact it2
      · have q := hI k hk2
        have e0 : (if k < j + 1 then i + 1 else i) = (if k < j then i + 1 else i) := by split <;> split <;> omega
        rw [e0]
        obtain ⟨o, e, r⟩ := q
        exact ⟨o, hs2.extBut _ _ (show n0 + k ≠ n0 + j by ((try unfold PySem.Addr at *); omega)) e, r⟩
  · rw [Nat.zero_add, lr] at hp
    obtain ⟨rfl, h', rfl, hsz, hk, hI⟩ := hp
    dsimp only
    have b1000 : ((List.range n).map Y).length = n := by rw [List.length_map, List.length_range]
    refine wpAny_bind (wpAny_newTuple ?_ ?_)
    · refine wpAny_pure ⟨_, rfl, ?_⟩
      dsimp only
      rw [hsz]
      have gT : (h'.push { cls := .type "tuple", data := .seq ((List.range n).map Y).toArray }).get? s.heap.objs.size = some { cls := .type "tuple", data := .seq ((List.range n).map Y).toArray } := by
        rw [← hsz]
        exact Heap.get?_push_size _ rfl
      refine hQ _ ⟨Heap.get?_push_of_some _ (hk _ _ (by ((try unfold PySem.Addr at *); omega)) base.z), Heap.get?_push_of_some _ (hk _ _ (by ((try unfold PySem.Addr at *); omega)) base.ti), ?_, fun k hk2 => ?_⟩ gT (by rw [Heap.size_push, hsz]) fun c o hc e => Heap.get?_push_of_some _ (hk c o (by ((try unfold PySem.Addr at *); omega)) (hs₁.extBut _ _ (by ((try unfold PySem.Addr at *); omega)) e))
      · obtain ⟨vs, v1, v2⟩ := base.to
        exact ⟨vs, v1, Heap.get?_push_of_some _ (hk _ _ (by ((try unfold PySem.Addr at *); omega)) v2)⟩
      · have q := hI k hk2
        rw [if_pos hk2] at q
        obtain ⟨o, e, r⟩ := q
        exact ⟨o, Heap.get?_push_of_some _ e, r⟩
    · have b1 : (1000 : Nat) ≤ sizeLine := by decide
      simp
      omega
theorem free_none {z TI TO : Addr} {f1 : Bool} {Q : Bool → Shared → Prop} (hz : s.heap.get? z = some { cls := .type "zip", data := .fields #[.none, .bool f1, .bool false, .ref TI, .ref TO] }) (q : Q true s) : wpAny (model prog w) A (Builtin.SmallTypes.ownedTupleIsFree (.ref z)) Q E s := by
  unfold Builtin.SmallTypes.ownedTupleIsFree
  exact wpAny_bind (wpAny_field hz rfl (x := .none) rfl (wpAny_pure q))
theorem free_gone {z TI TO T : Addr} {f1 : Bool} {Q : Bool → Shared → Prop} (hz : s.heap.get? z = some { cls := .type "zip", data := .fields #[rawInt T, .bool f1, .bool false, .ref TI, .ref TO] }) (hT : s.heap.get? T = none) (q : Q true s) : wpAny (model prog w) A (Builtin.SmallTypes.ownedTupleIsFree (.ref z)) Q E s := by
  unfold Builtin.SmallTypes.ownedTupleIsFree
  refine wpAny_bind (wpAny_field hz rfl (x := rawInt T) rfl ?_)
  show wpAny _ _ (loadIfAlive ((T : Int).toNat) >>= _) _ _ _
  rw [Int.toNat_natCast]
  refine wpAny_bind ?_
  have al : ∀ {Q' : Option Obj → Shared → Prop}, Q' none s → wpAny (model prog w) A (loadIfAlive T) Q' E s := fun {Q'} h => by
    have h' : Q' (s.heap.get? T) s := by rw [hT]; exact h
    exact fun _ _ _ => h'
  exact al (wpAny_pure q)
theorem nextN_free {Q : Value → Shared → Prop} (hn : 0 < n) (n1 : n ≤ 1000) {f0 : Value} (Z : ZN tb n0 n L i f0 f1 s.heap) (hfree : ∀ {Q : Bool → Shared → Prop}, Q true s → wpAny (model prog w) A (Builtin.SmallTypes.ownedTupleIsFree (.ref (n0 + n + 2))) Q E s) (hL : ∀ k, k < n → SIs tb s.heap (L k) (X k)) (out : ∀ k, k < n → L k < n0 ∨ n0 + n + 3 ≤ L k) (hY : ∀ k, k < n → (X k)[i]? = some (Y k))
    (hQ : ∀ h', ZN tb n0 n L (i + 1) (rawInt s.heap.objs.size) false h' → h'.get? s.heap.objs.size = some { cls := .type "tuple", data := .seq ((List.range n).map Y).toArray } → h'.objs.size = s.heap.objs.size + 1 →
      (∀ c o, (c < n0 ∨ n0 + n + 3 ≤ c) → s.heap.get? c = some o → h'.get? c = some o) → Q (.ref s.heap.objs.size) { s with heap := h' }) :
    wpAny (model prog w) A (Builtin.«zip.__next__» ⟨[.ref (n0 + n + 2)], []⟩) (fun fin s' => ∃ v, fin = .done (.ret v) ∧ Q v s') E s := by
  have hz : s.heap.get? (n0 + n + 2) = _ := Z.z
  show wpAny _ _ (field (.ref (n0 + n + 2)) 2 >>= _) _ _ _
  refine wpAny_bind (wpAny_field hz rfl (x := .bool false) rfl ?_)
  show wpAny _ _ (field (.ref (n0 + n + 2)) 3 >>= _) _ _ _
  refine wpAny_bind (wpAny_field hz rfl (x := .ref (n0 + n)) rfl ?_)
  refine wpAny_bind (wpAny_seqItems Z.ti rfl ?_)
  dsimp only
  rw [itsN hn]
  simp only [Bool.false_eq_true, if_false]
  refine wpAny_bind (hfree ?_)
  simp only [if_true]
  refine wpAny_bind (wpAny_rule ?_)
  refine wpAny_bind (wpAny_field hz rfl (x := .ref (n0 + n + 1)) rfl ?_)
  refine wpAny_bind (wpAny_setField_rec hz (by simp) fun h₁ hz₁ hs₁ => ?_)
  refine wpAny_bind ?_
  have b1000 : (1000 : Nat) ≤ sizeLine := by decide
  have lr : (List.map (fun k => Value.ref (n0 + k)) (List.range n)).length = n := by rw [List.length_map, List.length_range]
  have hz1 : h₁.get? (n0 + n + 2) = some { cls := .type "zip", data := .fields #[.ellipsis, .bool f1, .bool false, .ref (n0 + n), .ref (n0 + n + 1)] } := hz₁
  have hti1 := hs₁.extBut _ _ (show (n0 + n : Addr) ≠ n0 + n + 2 by ((try unfold PySem.Addr at *); omega)) Z.ti
  obtain ⟨vs0, v01, v02⟩ := Z.to
  have v03 := hs₁.extBut _ _ (show (n0 + n + 1 : Addr) ≠ n0 + n + 2 by ((try unfold PySem.Addr at *); omega)) v02
  refine forIn_steps (P := fun j (b : Option Fin × Unit) s' => b = (none, ()) ∧ ∃ h', s' = { s with heap := h' } ∧ h'.objs.size = s.heap.objs.size ∧ (∀ c o, (c < n0 ∨ c = n0 + n ∨ n0 + n + 2 ≤ c) → h₁.get? c = some o → h'.get? c = some o) ∧ (∃ vs : Array Value, vs.size = n ∧ h'.get? (n0 + n + 1) = some { cls := .type "tuple", data := .seq vs } ∧ ∀ k, k < j → vs[k]? = some (Y k)) ∧ (∀ k, k < n → SIt tb h' (n0 + k) (L k) (if k < j then i + 1 else i))) _ 0 _ _ _ ⟨rfl, h₁, rfl, hs₁.1, fun _ _ _ e => e, ⟨vs0, v01, v03, fun k hk => absurd hk (Nat.not_lt_zero _)⟩, fun k hk => by
    rw [if_neg (by omega)]
    obtain ⟨o, e, r⟩ := Z.it k hk
    exact ⟨o, hs₁.extBut _ _ (show (n0 + k : Addr) ≠ n0 + n + 2 by ((try unfold PySem.Addr at *); omega)) e, r⟩⟩ (fun j x hx b s' hp => ?_) fun b s' hp => ?_
  · rw [Nat.zero_add] at hp ⊢
    obtain ⟨rfl, h', rfl, hsz, hk, ⟨vs, v1, v2, v3⟩, hI⟩ := hp
    have jn : j < n := by
      have q := (List.getElem?_eq_some_iff.mp hx).1
      rw [List.length_zipIdx, lr] at q
      exact q
    have ex : x = (.ref (n0 + j), j) := by
      rw [List.getElem?_zipIdx, List.getElem?_map, List.getElem?_range jn] at hx
      simpa using (Option.some.inj hx).symm
    subst ex
    dsimp only
    have it := hI j jn
    rw [if_neg (Nat.lt_irrefl j)] at it
    have hl : SIs tb h' (L j) (X j) := by
      exact (hL j jn).mv fun o e => hk _ _ (by have := out j jn; ((try unfold PySem.Addr at *); omega)) (hs₁.extBut _ _ (by have := out j jn; ((try unfold PySem.Addr at *); omega)) e)
    refine wpAny_bind (wpAny_onRaise ?_)
    show wpAny _ _ (Builtin.SmallTypes.nextOf (.ref (n0 + j)) >>= _) _ _ _
    refine wpAny_bind (nextS_item (s := { s with heap := h' }) it hl (hY j jn) fun h2 it2 hs2 => wpAny_pure ?_)
    have hT2 := hs2.extBut _ _ (show (n0 + n + 1 : Addr) ≠ n0 + j by ((try unfold PySem.Addr at *); omega)) v2
    refine wpAny_bind (wpAny_seqItems (s := { s with heap := h2 }) hT2 rfl ?_)
    dsimp only
    refine wpAny_bind (wpAny_updateSeq (s := { s with heap := h2 }) hT2 rfl ?_ (by omega) (by rw [Array.size_setIfInBounds]; omega))
    refine wpAny_bind (wpAny_letGo (wpAny_pure ⟨_, rfl, rfl, _, rfl, ?_, fun c o hc e => ?_, ⟨vs.setIfInBounds j (Y j), by rw [Array.size_setIfInBounds, v1], ?_, fun k hk2 => ?_⟩, fun k hk2 => ?_⟩))
    · exact (Heap.SameBut.update ..).1.trans (hs2.1.trans hsz)
    · exact (Heap.SameBut.update ..).extBut _ _ (by ((try unfold PySem.Addr at *); omega)) (hs2.extBut _ _ (by ((try unfold PySem.Addr at *); omega)) (hk c o hc e))
    · dsimp only
      rw [Heap.get?_update_self _ hT2 rfl]
      simp [Obj.mapSeq]
    · by_cases g : k = j
      · subst g
        simp [v1, jn]
      · rw [Array.getElem?_setIfInBounds_ne (by omega)]
        exact v3 k (by omega)
    · have up : ∀ c o, c ≠ n0 + n + 1 → h2.get? c = some o → (h2.update (n0 + n + 1) (Obj.mapSeq fun x_2 => x_2.setIfInBounds j (Y j))).get? c = some o := fun c o hc e => (Heap.SameBut.update ..).extBut _ _ hc e
      by_cases g : k = j
      · subst g
        rw [if_pos (Nat.lt_succ_self _)]
        obtain ⟨o, e, r⟩ := it2
        exact ⟨o, up _ _ (show (n0 + k : Addr) ≠ n0 + n + 1 by ((try unfold PySem.Addr at *); omega)) e, r⟩
      · have q := hI k hk2
        have e0 : (if k < j + 1 then i + 1 else i) = (if k < j then i + 1 else i) := by split <;> split <;> omega
        rw [e0]
        obtain ⟨o, e, r⟩ := q
        exact ⟨o, up _ _ (show (n0 + k : Addr) ≠ n0 + n + 1 by ((try unfold PySem.Addr at *); omega)) (hs2.extBut _ _ (show (n0 + k : Addr) ≠ n0 + j by ((try unfold PySem.Addr at *); omega)) e), r⟩
  · rw [Nat.zero_add, List.length_zipIdx, lr] at hp
    obtain ⟨rfl, h', rfl, hsz, hk, ⟨vs, v1, v2, v3⟩, hI⟩ := hp
    dsimp only
    have ev : vs.toList = (List.range n).map Y := by
      apply List.ext_getElem?
      intro k
      rw [List.getElem?_map, Array.getElem?_toList]
      by_cases g : k < n
      · rw [List.getElem?_range g, v3 k g]
        rfl
      · rw [List.getElem?_eq_none (by rw [List.length_range]; omega), Array.getElem?_eq_none (by omega)]
        rfl
    refine wpAny_bind (wpAny_seqItems (s := { s with heap := h' }) v2 rfl ?_)
    dsimp only
    refine wpAny_bind (wpAny_newTuple ?_ (by rw [Array.length_toList]; omega))
    dsimp only
    rw [ev]
    have zz : (h'.push { cls := .type "tuple", data := .seq ((List.range n).map Y).toArray }).get? (n0 + n + 2) = some { cls := .type "zip", data := .fields #[.ellipsis, .bool f1, .bool false, .ref (n0 + n), .ref (n0 + n + 1)] } := Heap.get?_push_of_some _ (hk _ _ (by ((try unfold PySem.Addr at *); omega)) hz1)
    have zlt : (n0 + n + 2 : Nat) < h'.objs.size := Heap.lt_size (hk _ _ (by ((try unfold PySem.Addr at *); omega)) hz1)
    refine wpAny_bind ?_
    unfold Builtin.SmallTypes.ownedTupleHandOut
    dsimp only
    refine wpAny_bind (wpAny_setField_rec (s := { s with heap := h'.push { cls := .type "tuple", data := .seq ((List.range n).map Y).toArray } }) zz (by simp) fun h₇ hz₇ hs₇ => ?_)
    refine wpAny_setField_rec (s := { s with heap := h₇ }) hz₇ (by simp) fun h₈ hz₈ hs₈ => ?_
    refine wpAny_pure ⟨_, rfl, ?_⟩
    have up : ∀ c o, c ≠ n0 + n + 2 → h'.get? c = some o → h₈.get? c = some o := fun c o hc e => hs₈.extBut _ _ hc (hs₇.extBut _ _ hc (Heap.get?_push_of_some _ e))
    have gT : h₈.get? h'.objs.size = some { cls := .type "tuple", data := .seq ((List.range n).map Y).toArray } := hs₈.extBut _ _ (show (h'.objs.size : Addr) ≠ n0 + n + 2 by ((try unfold PySem.Addr at *); omega)) (hs₇.extBut _ _ (show (h'.objs.size : Addr) ≠ n0 + n + 2 by ((try unfold PySem.Addr at *); omega)) (Heap.get?_push_size _ rfl))
    have z8 : h₈.objs.size = h'.objs.size + 1 := by rw [hs₈.1, hs₇.1, Heap.size_push]
    rw [hsz] at gT z8 hz₈ ⊢
    refine hQ h₈ ⟨?_, up _ _ (by ((try unfold PySem.Addr at *); omega)) (hk _ _ (by ((try unfold PySem.Addr at *); omega)) hti1), ⟨vs, v1, up _ _ (by ((try unfold PySem.Addr at *); omega)) v2⟩, fun k hk2 => ?_⟩ gT z8 fun c o hc e => up c o (by ((try unfold PySem.Addr at *); omega)) (hk c o (by ((try unfold PySem.Addr at *); omega)) (hs₁.extBut _ _ (by ((try unfold PySem.Addr at *); omega)) e))
    · exact hz₈
    · have q := hI k hk2
      rw [if_pos hk2] at q
      obtain ⟨o, e, r⟩ := q
      exact ⟨o, up _ _ (show (n0 + k : Addr) ≠ n0 + n + 2 by ((try unfold PySem.Addr at *); omega)) e, r⟩
theorem range_cons (hn : 0 < n) (f : Nat → Value) : (List.range n).map f = f 0 :: (List.range (n - 1)).map fun k => f (k + 1) := by
  obtain ⟨m, rfl⟩ : ∃ m, n = m + 1 := ⟨n - 1, by omega⟩
  rw [List.range_succ_eq_map, List.map_cons, List.map_map]
  rfl
theorem endN_held {T : Addr} {oT : Obj} {Q : Fin → Shared → Prop} (hh : A.handled = none) (hn : 0 < n) (Z : ZN tb n0 n L i (rawInt T) f1 s.heap) (hT : s.heap.get? T = some oT) (hL : ∀ k, k < n → SIs tb s.heap (L k) (X k)) (out : ∀ k, k < n → L k < n0 ∨ n0 + n + 3 ≤ L k) (hY : (X 0)[i]? = none)
    (hE : ∀ h' e, (∀ c o, (c < n0 ∨ n0 + n + 3 ≤ c) → s.heap.get? c = some o → h'.get? c = some o) → (∃ o, h'.get? e = some o ∧ o.cls = .type "StopIteration") → E (.ref e) { s with heap := h' }) :
    wpAny (model prog w) A (Builtin.«zip.__next__» ⟨[.ref (n0 + n + 2)], []⟩) Q E s := by
  have hz : IsZipHeld s.heap (n0 + n + 2) (n0 + n) (n0 + n + 1) T f1 := Z.z
  show wpAny _ _ (field (.ref (n0 + n + 2)) 2 >>= _) _ _ _
  refine wpAny_bind (wpAny_field hz rfl (x := .bool false) rfl ?_)
  show wpAny _ _ (field (.ref (n0 + n + 2)) 3 >>= _) _ _ _
  refine wpAny_bind (wpAny_field hz rfl (x := .ref (n0 + n)) rfl ?_)
  refine wpAny_bind (wpAny_seqItems Z.ti rfl ?_)
  dsimp only
  rw [itsN hn]
  simp only [Bool.false_eq_true, if_false]
  refine wpAny_bind (wpAny_tupleHeld_zip hz hT fun h₁ hz₁ hs₁ => ?_)
  simp only [Bool.false_eq_true, if_false]
  refine wpAny_bind ?_
  rw [← Array.forIn_toList]
  rw [show (List.map (fun k => Value.ref (n0 + k)) (List.range n)).toArray.toList = List.map (fun k => Value.ref (n0 + k)) (List.range n) from rfl]
  have q := range_cons hn fun k => Value.ref (n0 + k)
  rw [q, List.forIn_cons]
  refine wpAny_bind (wpAny_bind (wpAny_holding ?_))
  show wpAny _ _ (Builtin.SmallTypes.nextOf (.ref (n0 + 0)) >>= _) _ _ _
  have it : SIt tb h₁ (n0 + 0) (L 0) i := by
    obtain ⟨o, e, r⟩ := Z.it 0 hn
    exact ⟨o, hs₁.extBut _ _ (show (n0 + 0 : Addr) ≠ n0 + n + 2 by ((try unfold PySem.Addr at *); omega)) e, r⟩
  have hl : SIs tb h₁ (L 0) (X 0) := by
    exact (hL 0 hn).mv fun o e => hs₁.extBut _ _ (by have := out 0 hn; ((try unfold PySem.Addr at *); omega)) e
  refine wpAny_bind (nextS_end (s := { s with heap := h₁ }) hh it hl hY fun h' e hx he => ?_)
  exact hE h' e (fun c o hc x => hx _ _ (show c ≠ n0 + 0 by ((try unfold PySem.Addr at *); omega)) (hs₁.extBut _ _ (by ((try unfold PySem.Addr at *); omega)) x)) he
theorem endN_free {Q : Fin → Shared → Prop} (hh : A.handled = none) {f0 : Value} (Z : ZN tb n0 n L i f0 f1 s.heap) (hfree : 0 < n → ∀ {Q : Bool → Shared → Prop}, Q true s → wpAny (model prog w) A (Builtin.SmallTypes.ownedTupleIsFree (.ref (n0 + n + 2))) Q E s) (hL : ∀ k, k < n → SIs tb s.heap (L k) (X k)) (out : ∀ k, k < n → L k < n0 ∨ n0 + n + 3 ≤ L k) (hY : 0 < n → (X 0)[i]? = none)
    (hE : ∀ h' e, (∀ c o, (c < n0 ∨ n0 + n + 3 ≤ c) → s.heap.get? c = some o → h'.get? c = some o) → (∃ o, h'.get? e = some o ∧ o.cls = .type "StopIteration") → E (.ref e) { s with heap := h' }) :
    wpAny (model prog w) A (Builtin.«zip.__next__» ⟨[.ref (n0 + n + 2)], []⟩) Q E s := by
  have hz : s.heap.get? (n0 + n + 2) = _ := Z.z
  show wpAny _ _ (field (.ref (n0 + n + 2)) 2 >>= _) _ _ _
  refine wpAny_bind (wpAny_field hz rfl (x := .bool false) rfl ?_)
  show wpAny _ _ (field (.ref (n0 + n + 2)) 3 >>= _) _ _ _
  refine wpAny_bind (wpAny_field hz rfl (x := .ref (n0 + n)) rfl ?_)
  refine wpAny_bind (wpAny_seqItems Z.ti rfl ?_)
  dsimp only
  by_cases hn : 0 < n
  rotate_left
  · have e0 : n = 0 := by omega
    subst e0
    rw [show ((List.range 0).map fun k => Value.ref (n0 + k)).toArray.isEmpty = true from rfl]
    simp only [if_true]
    refine wpAny_bind (wpAny_rule ?_)
    show wpAny _ _ (Builtin.SmallTypes.stopIteration >>= _) _ _ _
    refine wpAny_bind ?_
    unfold Builtin.SmallTypes.stopIteration
    refine wpAny_bind ?_
    simp only [newExc, newTuple]
    refine wpAny_bind (wpAny_newObj_type ?_ (by size_fits))
    refine wpAny_bind (m := firstArgMember _ _) (wpAny_of_eq (a := Value.none) (by first | rfl | (simp only [firstArgMember]; rfl)) ?_)
    refine wpAny_newObj_type ?_ (by size_fits)
    refine wpAny_raiseNew_none hh ?_
    exact hE _ _ (fun c o hc x => Heap.get?_push_of_some _ (Heap.get?_push_of_some _ x)) ⟨_, Heap.get?_push_size _ rfl, rfl⟩
  rw [itsN hn]
  simp only [Bool.false_eq_true, if_false]
  refine wpAny_bind (hfree hn ?_)
  simp only [if_true]
  refine wpAny_bind (wpAny_rule ?_)
  refine wpAny_bind (wpAny_field hz rfl (x := .ref (n0 + n + 1)) rfl ?_)
  refine wpAny_bind (wpAny_setField_rec hz (by simp) fun h₁ hz₁ hs₁ => ?_)
  refine wpAny_bind ?_
  have hz1 : h₁.get? (n0 + n + 2) = some { cls := .type "zip", data := .fields #[.ellipsis, .bool f1, .bool false, .ref (n0 + n), .ref (n0 + n + 1)] } := hz₁
  have q := range_cons hn fun k => Value.ref (n0 + k)
  rw [q, List.zipIdx_cons, List.forIn_cons]
  refine wpAny_bind (wpAny_bind (wpAny_onRaise ?_))
  show wpAny _ _ (Builtin.SmallTypes.nextOf (.ref (n0 + 0)) >>= _) _ _ _
  have it : SIt tb h₁ (n0 + 0) (L 0) i := by
    obtain ⟨o, e, r⟩ := Z.it 0 hn
    exact ⟨o, hs₁.extBut _ _ (show (n0 + 0 : Addr) ≠ n0 + n + 2 by ((try unfold PySem.Addr at *); omega)) e, r⟩
  have hl : SIs tb h₁ (L 0) (X 0) := by
    exact (hL 0 hn).mv fun o e => hs₁.extBut _ _ (by have := out 0 hn; ((try unfold PySem.Addr at *); omega)) e
  refine wpAny_bind (nextS_end (s := { s with heap := h₁ }) hh it hl (hY hn) fun h' e hx he => ?_)
  obtain ⟨oe, hoe, hce⟩ := he
  have hzq := hx _ _ (show (n0 + n + 2 : Addr) ≠ n0 + 0 by ((try unfold PySem.Addr at *); omega)) hz1
  have hez : e ≠ n0 + n + 2 := fun z => by
    rw [z, hzq] at hoe
    cases hoe
    simp at hce
  refine wpAny_setField_rec (s := { s with heap := h' }) hzq (by simp) fun q' _ hq' => ?_
  exact hE q' e (fun c o hc x => hq'.extBut _ _ (by ((try unfold PySem.Addr at *); omega)) (hx _ _ (show c ≠ n0 + 0 by ((try unfold PySem.Addr at *); omega)) (hs₁.extBut _ _ (by ((try unfold PySem.Addr at *); omega)) x))) ⟨oe, hq'.extBut _ _ hez hoe, hce⟩
section
variable {Qn : Option Value → Shared → Prop}
theorem pyNextN_item {f0 : Value} (hn : 0 < n) (n1 : n ≤ 1000) (Z : ZN tb n0 n L i f0 f1 s.heap) (hf : f0 = .none ∨ ∃ T : Addr, f0 = rawInt T) (hL : ∀ k, k < n → SIs tb s.heap (L k) (X k)) (out : ∀ k, k < n → L k < n0 ∨ n0 + n + 3 ≤ L k) (hY : ∀ k, k < n → (X k)[i]? = some (Y k))
    (hQ : ∀ h' (T : Addr) f1', ZN tb n0 n L (i + 1) (rawInt T) f1' h' → h'.get? s.heap.objs.size = some { cls := .type "tuple", data := .seq ((List.range n).map Y).toArray } → h'.objs.size = s.heap.objs.size + 1 →
      (∀ c o, (c < n0 ∨ n0 + n + 3 ≤ c) → s.heap.get? c = some o → h'.get? c = some o) → Qn (some (.ref s.heap.objs.size)) { s with heap := h' }) :
    wpAny (model prog w) A (pyNext (.ref (n0 + n + 2))) Qn E s := by
  have hTy : s.TypeIs (.ref (n0 + n + 2)) "zip" := ⟨_, Z.z, rfl⟩
  unfold pyNext
  refine wpAny_bind (wpAny_attempt (wpAny_callSpecial?_slot (name := Str.ofString "__next__") hTy F.slot_zip_next (wpAny_call_entry F.slot_zip_next hTy F.entry_zip_next ?_ (F.args_zip_next_1 _))))
  rcases hf with rfl | ⟨T, rfl⟩
  · exact nextN_free hn n1 Z (fun q => free_none Z.z q) hL out hY fun h' a b c d => wpAny_pure (hQ h' _ _ a b c d)
  · cases hT : s.heap.get? T with
    | none => exact nextN_free hn n1 Z (fun q => free_gone Z.z hT q) hL out hY fun h' a b c d => wpAny_pure (hQ h' _ _ a b c d)
    | some oT => exact nextN_held hn n1 Z hT hL out hY fun h' a b c d => wpAny_pure (hQ h' _ _ a b c d)
theorem pyNextN_end {f0 : Value} (hh : A.in1.handled = none) (Z : ZN tb n0 n L i f0 f1 s.heap) (hf : f0 = .none ∨ ∃ T : Addr, f0 = rawInt T) (hL : ∀ k, k < n → SIs tb s.heap (L k) (X k)) (out : ∀ k, k < n → L k < n0 ∨ n0 + n + 3 ≤ L k) (hY : 0 < n → (X 0)[i]? = none)
    (hQ : ∀ h', (∀ c o, (c < n0 ∨ n0 + n + 3 ≤ c) → s.heap.get? c = some o → h'.get? c = some o) → Qn none { s with heap := h' }) : wpAny (model prog w) A (pyNext (.ref (n0 + n + 2))) Qn E s := by
  have hTy : s.TypeIs (.ref (n0 + n + 2)) "zip" := ⟨_, Z.z, rfl⟩
  unfold pyNext
  have fin : ∀ h' e, (∀ c o, (c < n0 ∨ n0 + n + 3 ≤ c) → s.heap.get? c = some o → h'.get? c = some o) → (∃ o, h'.get? e = some o ∧ o.cls = .type "StopIteration") → wpAny (model prog w) A (do
      let b ← isInstance (.ref e) (.type "StopIteration")
      if b = true then pure none else throw (.ref e) : Sem (Option Value)) Qn E { s with heap := h' } := fun h' e hk he => by
    obtain ⟨o, ho, hc⟩ := he
    refine wpAny_bind (wpAny_isInstance (T := "StopIteration") (b := true) ⟨o, ho, hc⟩ isSubtype_stop ?_)
    exact wpAny_pure (hQ _ hk)
  refine wpAny_bind (wpAny_attempt (wpAny_callSpecial?_slot (name := Str.ofString "__next__") hTy F.slot_zip_next (wpAny_call_entry F.slot_zip_next hTy F.entry_zip_next ?_ (F.args_zip_next_1 _))))
  rcases hf with rfl | ⟨T, rfl⟩
  · exact endN_free hh Z (fun _ _ q => free_none Z.z q) hL out hY fin
  · cases hT : s.heap.get? T with
    | none => exact endN_free hh Z (fun _ _ q => free_gone Z.z hT q) hL out hY fin
    | some oT =>
      by_cases hn : 0 < n
      · exact endN_held hh hn Z hT hL out (hY hn) fin
      · exact endN_free hh Z (fun z => absurd z hn) hL out hY fin
end
end
/-! ### at the level of the state -/
def Sq (tb : Bool) (K : PySem.W.Frag) (H : Hp) (a : Addr) (xs : List V) : Prop := cond tb (SqT K H a xs) (SqL K H a xs)
theorem Sq.mem {tb : Bool} {X : Cx} {pins : List (Addr × Obj)} {σ : L2.St} {H : Hp} {s : Shared} {a : Addr} {xs : List V} (I : Inv X pins σ H s) (h : Sq tb X.K H a xs) : ∃ its : List Value, Vals xs its ∧ SIs tb s.heap a its.toArray := by
  cases tb
  · obtain ⟨its, rv, p, _⟩ := I.list h
    exact ⟨its, rv, p.isList⟩
  · obtain ⟨its, rv, p, _⟩ := I.tuple h
    exact ⟨its, rv, p⟩
theorem Sq.inj {tb : Bool} {X : Cx} {pins : List (Addr × Obj)} {σ : L2.St} {H : Hp} {s : Shared} {a : Addr} {xs ys : List V} (I : Inv X pins σ H s) (h : Sq tb X.K H a xs) (k : Sq tb X.K H a ys) : xs = ys := by
  cases tb
  · exact I.list_inj h k
  · exact I.tuple_inj h k
theorem SIs.lt {tb : Bool} {h : Heap} {l : Addr} {items : Array Value} (x : SIs tb h l items) : l < h.objs.size := by
  cases tb
  · obtain ⟨o, e, _⟩ := (show h.IsList l items from x)
    exact Heap.lt_size e
  · obtain ⟨o, e, _⟩ := (show h.IsTuple l items from x)
    exact Heap.lt_size e
theorem vals_map {Vf : Nat → V} {Y : Nat → Value} : ∀ {l : List Nat}, (∀ k ∈ l, RelV (Vf k) (Y k)) → Vals (l.map Vf) (l.map Y)
  | [], _ => .nil
  | k :: l, h => .cons (h k List.mem_cons_self) (vals_map fun j hj => h j (List.mem_cons_of_mem _ hj))
def IzN (tb : Bool) (K : PySem.W.Frag) (ls : List Addr) : It :=
  ⟨fun i H => 0 < ls.length ∧ ∀ (k : Nat) l, ls[k]? = some l → ∃ xs x, Sq tb K H l xs ∧ xs[i]? = some x,
   fun i H v H' => ∃ pr ys, v = .ref pr ∧ H pr = none ∧ H' = upd H pr (.tup ys) ∧ ys.length = ls.length ∧ ∀ (k : Nat) l, ls[k]? = some l → ∀ xs, Sq tb K H l xs → xs[i]? = ys[k]?,
   fun i H => ∀ (k : Nat) l, ls[k]? = some l → ∃ xs, Sq tb K H l xs ∧ (k = 0 → xs.length ≤ i)⟩
theorem getD_of {ls : List Addr} {k : Nat} {l : Addr} (h : ls[k]? = some l) : ls.getD k 0 = l := by
  rw [List.getD_eq_getElem?_getD, h]
  rfl
theorem iter_self {prog : Program} {w : World} {A : Around} {E : Value → Shared → Prop} {s : Shared} {z : Addr} {Q : Value → Shared → Prop} (hT : s.TypeIs (.ref z) "zip") (h : Q (.ref z) s) : wpAny (model prog w) A (pyIter (.ref z)) Q E s := by
  refine wpAny_pyIter_slot hT F.slot_zip_iter (wpAny_call_entry F.slot_zip_iter hT F.entry_zip_iter ?_ (F.args_zip_iter_1 _))
  show wpAny _ _ (ret (.ref z)) _ _ s
  exact wpAny_pure ⟨_, rfl, "zip", _, hT, F.slot_zip_next.lookup, h⟩
theorem turn_zN {P : Program} {w : World} {K : PySem.W.Frag} {x : Str} {p : Pos} {tb : Bool} {ls : List Addr} {n0 : Nat} (S : ∀ l ∈ ls, l < n0) (n1 : ls.length ≤ 1000) :
    Turn P w K (.Name x p) (IzN tb K ls) (List.range' n0 (ls.length + 3)) (n0 + ls.length + 2) (fun i h => ∃ f0 f1, ZN tb n0 ls.length (fun k => ls.getD k 0) i f0 f1 h ∧ (f0 = .none ∨ ∃ T : Addr, f0 = rawInt T)) where
  mem := List.mem_range'_1.mpr ⟨by ((try unfold PySem.Addr at *); omega), by ((try unfold PySem.Addr at *); omega)⟩
  obj := fun i h tn d hd => by
    obtain ⟨f0, f1, Z, _⟩ := tn
    obtain ⟨d1, d2⟩ := List.mem_range'_1.mp hd
    by_cases g : d < n0 + ls.length
    · obtain ⟨k, rfl⟩ : ∃ k, d = n0 + k := ⟨d - n0, by ((try unfold PySem.Addr at *); omega)⟩
      obtain ⟨o, e, c, dd⟩ := Z.it k (by ((try unfold PySem.Addr at *); omega))
      exact ⟨o, e, fun v z => by rw [dd] at z; cases z⟩
    · by_cases g2 : d = n0 + ls.length
      · subst g2
        exact ⟨_, Z.ti, fun v z => nomatch z⟩
      · by_cases g3 : d = n0 + ls.length + 1
        · subst g3
          obtain ⟨vs, _, e⟩ := Z.to
          exact ⟨_, e, fun v z => nomatch z⟩
        · have e : d = n0 + ls.length + 2 := by ((try unfold PySem.Addr at *); omega)
          subst e
          exact ⟨_, Z.z, fun v z => nomatch z⟩
  keep := fun i h h' tn k => by
    obtain ⟨f0, f1, Z, hf⟩ := tn
    refine ⟨f0, f1, ⟨k _ (List.mem_range'_1.mpr ⟨by ((try unfold PySem.Addr at *); omega), by ((try unfold PySem.Addr at *); omega)⟩) _ Z.z, k _ (List.mem_range'_1.mpr ⟨by ((try unfold PySem.Addr at *); omega), by ((try unfold PySem.Addr at *); omega)⟩) _ Z.ti, ?_, fun j hj => ?_⟩, hf⟩
    · obtain ⟨vs, v1, v2⟩ := Z.to
      exact ⟨vs, v1, k _ (List.mem_range'_1.mpr ⟨by ((try unfold PySem.Addr at *); omega), by ((try unfold PySem.Addr at *); omega)⟩) _ v2⟩
    · obtain ⟨o, e, r⟩ := Z.it j hj
      exact ⟨o, k _ (List.mem_range'_1.mpr ⟨by ((try unfold PySem.Addr at *); omega), by ((try unfold PySem.Addr at *); omega)⟩) _ e, r⟩
  item := by
    intro X hP hw hK hc i pins s σ H E I hf tn hg
    subst hP hw hK
    obtain ⟨f0, f1, Z, hf0⟩ := tn
    obtain ⟨hpos, hx⟩ := hg
    have all : ∀ k : Nat, ∃ q : Array Value × Value × V, k < ls.length → SIs tb s.heap (ls.getD k 0) q.1 ∧ q.1[i]? = some q.2.1 ∧ RelV q.2.2 q.2.1 ∧ ∀ xs, Sq tb X.K H (ls.getD k 0) xs → xs[i]? = some q.2.2 := fun k => by
      by_cases hk : k < ls.length
      · have e : ls[k]? = some (ls[k]'hk) := List.getElem?_eq_getElem hk
        obtain ⟨xs, x, h1, h2⟩ := hx k _ e
        obtain ⟨its, rv, m⟩ := Sq.mem I h1
        obtain ⟨u, hu, ru⟩ := rv.get h2
        refine ⟨(its.toArray, u, x), fun _ => ⟨by rw [getD_of e]; exact m, by simpa using hu, ru, fun ys hy => ?_⟩⟩
        rw [getD_of e] at hy
        rw [Sq.inj I hy h1]
        exact h2
      · exact ⟨(#[], .none, .non), fun z => absurd z hk⟩
    obtain ⟨q, hq⟩ := Classical.axiomOfChoice all
    have zl : n0 + ls.length + 2 < s.heap.objs.size := Heap.lt_size Z.z
    refine pyNextN_item (X := fun k => (q k).1) (Y := fun k => (q k).2.1) hpos n1 Z hf0 (fun k hk => (hq k hk).1) (fun k hk => .inl ?_) (fun k hk => (hq k hk).2.1) fun h' T f1' Z' hT hs kp => ?_
    · have e : ls[k]? = some (ls[k]'hk) := List.getElem?_eq_getElem hk
      rw [getD_of e]
      exact S _ (List.mem_of_getElem? e)
    have lc : ∀ d ∈ List.range' n0 (ls.length + 3), d < s.heap.objs.size := fun d hd => by
      have := (List.mem_range'_1.mp hd).2
      ((try unfold PySem.Addr at *); omega)
    have b1 : (1000 : Nat) ≤ sizeLine := by decide
    have made : ObjOk X.prog X.w (upd H s.heap.objs.size (.tup ((List.range ls.length).map fun k => (q k).2.2))) h' s.heap.objs.size (.tup ((List.range ls.length).map fun k => (q k).2.2)) :=
      ⟨by rw [List.length_map, List.length_range]; omega, (List.range ls.length).map fun k => (q k).2.1, vals_map fun k hk => (hq k (List.mem_range.mp hk)).2.2.1, ⟨_, hT, rfl, _, rfl⟩⟩
    have I3 : Inv X pins σ (upd H s.heap.objs.size (.tup ((List.range ls.length).map fun k => (q k).2.2))) { s with heap := h' } :=
      I.turnedNew (t' := s.toks) (ch := List.range' n0 (ls.length + 3)) (fun c o nc e => kp c o (by
        have : ¬ (n0 ≤ c ∧ c < n0 + (ls.length + 3)) := fun z => nc (List.mem_range'_1.mpr z)
        ((try unfold PySem.Addr at *); omega)) e) hf (Nat.le_refl _) made
    refine ⟨.ref s.heap.objs.size, rfl, ?_⟩
    unfold letOwnedTupleGo
    refine wpAny_pure ⟨.ref s.heap.objs.size, _, I3, rfl, ⟨_, _, rfl, I.hok.fresh (Nat.le_refl _), rfl, by rw [List.length_map, List.length_range], fun k l hl xs hxs => ?_⟩, ⟨_, _, Z', .inr ⟨T, rfl⟩⟩, fun d hd => ?_⟩
    · have hk := (List.getElem?_eq_some_iff.mp hl).1
      rw [List.getElem?_map, List.getElem?_range hk]
      exact (hq k hk).2.2.2 xs (by rw [getD_of hl]; exact hxs)
    · rw [upd_ne (Nat.ne_of_lt (lc d hd))]
      exact (hf d hd).1
  done := by
    intro X hP hw hK hc i pins s σ H E I hf tn hg
    subst hP hw hK
    obtain ⟨f0, f1, Z, hf0⟩ := tn
    have hx := hg
    have all : ∀ k : Nat, ∃ q : Array Value, k < ls.length → SIs tb s.heap (ls.getD k 0) q ∧ (k = 0 → q[i]? = none) := fun k => by
      by_cases hk : k < ls.length
      · have e : ls[k]? = some (ls[k]'hk) := List.getElem?_eq_getElem hk
        obtain ⟨xs, h1, h2⟩ := hx k _ e
        obtain ⟨its, rv, m⟩ := Sq.mem I h1
        refine ⟨its.toArray, fun _ => ⟨by rw [getD_of e]; exact m, fun k0 => ?_⟩⟩
        have := h2 k0
        have hl := rv.length
        rw [Array.getElem?_eq_none]
        simp
        omega
      · exact ⟨#[], fun z => absurd z hk⟩
    obtain ⟨q, hq⟩ := Classical.axiomOfChoice all
    have hh : X.A.in1.handled = none := I.ok.hd hc
    refine pyNextN_end (X := q) hh Z hf0 (fun k hk => (hq k hk).1) (fun k hk => .inl ?_) (fun hn => (hq 0 hn).2 rfl) fun h' kp => ⟨rfl, I.turnedL (t' := s.toks) (ch := List.range' n0 (ls.length + 3)) (fun c o nc e => kp c o (by
      have : ¬ (n0 ≤ c ∧ c < n0 + (ls.length + 3)) := fun z => nc (List.mem_range'_1.mpr z)
      ((try unfold PySem.Addr at *); omega)) e) hf⟩
    have e : ls[k]? = some (ls[k]'hk) := List.getElem?_eq_getElem hk
    rw [getD_of e]
    exact S _ (List.mem_of_getElem? e)
  self := fun A i s Q E tn q => by
    obtain ⟨f0, f1, Z, _⟩ := tn
    exact iter_self ⟨_, Z.z, rfl⟩ q
/-- zip(*e) -/
def iZN (tb : Bool) (K : PySem.W.Frag) (te : TE) : TI := fun σ H R => te σ H fun y H1 => ∃ (a : Addr) (ls : List Addr), y = V.ref a ∧ (SqT K H1 a (ls.map V.ref) ∨ SqL K H1 a (ls.map V.ref)) ∧ ls.length ≤ 1000 ∧ (∀ l ∈ ls, ∃ xs, Sq tb K H1 l xs) ∧ R (IzN tb K ls) H1
theorem vals_refs : ∀ {ls : List Addr} {us : List Value}, Vals (ls.map V.ref) us → us = ls.map Value.ref
  | [], _, .nil => rfl
  | l :: ls, _, .cons h t => by
    have e : _ = Value.ref l := h
    rw [e, vals_refs t]
    rfl
theorem pi_zN {X : Cx} {tb : Bool} {e : Expr} {te : TE} {p pos sp : Pos} {x : Str} {xp : Pos} (hg : Gl X "zip") (hm : X.mg "zip" = none) (he : PE X e te)
    (hst : starEach [.Starred e sp] X.env = [(true, eval e X.env)] := by rfl) : PI X (.Name x xp) (.Call (.Name "zip" p) [.Starred e sp] [] pos) (iZN tb X.K te) := by
  constructor
  intro pins s σ H R I h
  refine wpAny_Call_Name_kw (ld_blt I hg hm PyProof.Rows.boot_zip ?_)
  rw [hst]
  refine PySem.W.ks_call (P := fun _ => True) rfl (fun h _ => ⟨.machine, .inr (.inl rfl), fun A Q E s k q => wpAny_pure q⟩) (PySem.W.ks_lone (thn (he.run pins s σ H _ I h) fun v s1 ⟨y, H1, I1, ry, a, ls, ey, hxs, l1, hall, q⟩ => ?_))
  subst ey
  obtain rfl : v = Value.ref a := ry
  refine StX.star_any I1 hxs fun us s2 I2 rv => ⟨trivial, ?_⟩
  obtain rfl := vals_refs rv
  have hL : ∀ l ∈ ls, ∃ items, SIs tb s2.heap l items := fun l hl => by
    obtain ⟨xs, hx⟩ := hall l hl
    obtain ⟨its, _, m⟩ := Sq.mem I2 hx
    exact ⟨_, m⟩
  refine zip_beginsN (tb := tb) hL l1 fun h' hm => ?_
  obtain ⟨Z, hs, hk⟩ := hm
  refine iter_self (s := { s2 with heap := h' }) ⟨_, Z.z, rfl⟩ ?_
  have I3 : Inv X pins σ H1 { s2 with heap := h' } := I2.kept (t' := s2.toks) hk
  refine ⟨_, List.range' s2.heap.objs.size (ls.length + 3), _, _, H1, rfl, I3, turn_zN (fun l hl => ?_) l1, ⟨_, _, Z, .inl rfl⟩, fun d hd => ?_, q⟩
  · obtain ⟨items, m⟩ := hL l hl
    exact m.lt
  · have ld := (List.mem_range'_1.mp hd).1
    exact I2.fpOk ld (I2.hok.fresh ld)
end ZpN

/-! own: values of the abstract heap read as data; ==, !=, in, not in of any two data -/
namespace DaT
open PySem PySem.Spec PyProof.Rows L2
/-- what stands without the heap -/
def atomD : V → Option PyData
  | .non => some .none
  | .bl b => some (.bool b)
  | .int i => some (.int i)
  | .str s => some (.str s)
  | _ => none
/-- v reads as d, at most n lists and tuples deep -/
def At (K : PySem.W.Frag) (H : Hp) : Nat → V → PyData → Prop
  | 0, v, d => atomD v = some d
  | n + 1, v, d => atomD v = some d ∨ ∃ (a : Addr) (xs : List V) (ds : List PyData), v = .ref a ∧ xs.length = ds.length ∧ ((d = .list ds ∧ SqL K H a xs) ∨ (d = .tuple ds ∧ SqT K H a xs)) ∧ ∀ (i : Nat) x e, xs[i]? = some x → ds[i]? = some e → At K H n x e
theorem At.up {K : PySem.W.Frag} {H : Hp} : ∀ {n : Nat} {v : V} {d : PyData}, At K H n v d → At K H (n + 1) v d
  | 0, _, _, h => .inl h
  | n + 1, _, _, .inl h => .inl h
  | n + 1, _, _, .inr ⟨a, xs, ds, e, l, h, k⟩ => .inr ⟨a, xs, ds, e, l, h, fun i x y hx hy => (k i x y hx hy).up⟩
theorem At.le {K : PySem.W.Frag} {H : Hp} {n m : Nat} (l : n ≤ m) {v : V} {d : PyData} (h : At K H n v d) : At K H m v d := by
  induction l with
  | refl => exact h
  | step _ ih => exact ih.up
theorem At.imp {K : PySem.W.Frag} {H H' : Hp} (sT : ∀ a xs, SqT K H a xs → SqT K H' a xs) (sL : ∀ a xs, SqL K H a xs → SqL K H' a xs) : ∀ {n : Nat} {v : V} {d : PyData}, At K H n v d → At K H' n v d
  | 0, _, _, h => h
  | n + 1, _, _, .inl h => .inl h
  | n + 1, _, _, .inr ⟨a, xs, ds, e, l, h, k⟩ => .inr ⟨a, xs, ds, e, l, h.elim (fun z => .inl ⟨z.1, sL _ _ z.2⟩) (fun z => .inr ⟨z.1, sT _ _ z.2⟩), fun i x y hx hy => (k i x y hx hy).imp sT sL⟩
theorem At.atom {K : PySem.W.Frag} {H : Hp} {n : Nat} {v : V} {d : PyData} (h : atomD v = some d) : At K H n v d := by
  cases n with
  | zero => exact h
  | succ n => exact .inl h
theorem At.int {K : PySem.W.Frag} {H : Hp} {n : Nat} {i : Int} : At K H n (.int i) (.int i) := At.atom rfl
theorem At.str {K : PySem.W.Frag} {H : Hp} {n : Nat} {s : Str} : At K H n (.str s) (.str s) := At.atom rfl
theorem At.tup {K : PySem.W.Frag} {H : Hp} {n : Nat} {a : Addr} {xs : List V} {ds : List PyData} (h : SqT K H a xs) (l : xs.length = ds.length) (k : ∀ (i : Nat) x e, xs[i]? = some x → ds[i]? = some e → At K H n x e) : At K H (n + 1) (.ref a) (.tuple ds) :=
  .inr ⟨a, xs, ds, rfl, l, .inr ⟨rfl, h⟩, k⟩
theorem At.lst {K : PySem.W.Frag} {H : Hp} {n : Nat} {a : Addr} {xs : List V} {ds : List PyData} (h : SqL K H a xs) (l : xs.length = ds.length) (k : ∀ (i : Nat) x e, xs[i]? = some x → ds[i]? = some e → At K H n x e) : At K H (n + 1) (.ref a) (.list ds) :=
  .inr ⟨a, xs, ds, rfl, l, .inl ⟨rfl, h⟩, k⟩
/-- item by item -/
theorem pr_nil {R : V → PyData → Prop} : ∀ (i : Nat) x e, ([] : List V)[i]? = some x → ([] : List PyData)[i]? = some e → R x e := fun i x e h => by cases h
theorem pr_cons {R : V → PyData → Prop} {x : V} {d : PyData} {xs : List V} {ds : List PyData} (h : R x d) (k : ∀ (i : Nat) x e, xs[i]? = some x → ds[i]? = some e → R x e) : ∀ (i : Nat) y e, (x :: xs)[i]? = some y → (d :: ds)[i]? = some e → R y e
  | 0, y, e, a, b => by cases a; cases b; exact h
  | i + 1, y, e, a, b => k i y e a b
section
variable {X : Cx} {pins : List (Addr × Obj)} {σ : L2.St} {H : Hp} {s : Shared}
theorem atom_reads {v : V} {d : PyData} {u : Value} (h : atomD v = some d) (r : RelV v u) : Reads s.heap u d [] ∧ d.plain = true ∧ d.depth = 0 := by
  cases v with
  | non => cases h; cases (show u = .none from r); exact ⟨.none, rfl, rfl⟩
  | bl b => cases h; cases (show u = .bool b from r); exact ⟨.bool b, rfl, rfl⟩
  | int i => cases h; obtain ⟨t, rfl⟩ := r; exact ⟨.int i t, rfl, rfl⟩
  | str z => cases h; obtain ⟨t, rfl⟩ := r; exact ⟨.str z t, rfl, rfl⟩
  | _ => cases h
theorem all_reads {n : Nat} {R : V → PyData → Prop} (k : ∀ v d u, R v d → RelV v u → ∃ as, Reads s.heap u d as ∧ d.plain = true ∧ d.depth ≤ n) : ∀ {xs : List V} {ds : List PyData} {its : List Value}, xs.length = ds.length → Vals xs its → (∀ (i : Nat) x e, xs[i]? = some x → ds[i]? = some e → R x e) →
    ∃ as, ReadsAll s.heap its ds as ∧ PyData.plainAll ds = true ∧ PyData.depthAll ds ≤ n
  | [], [], _, _, .nil, _ => ⟨[], .nil, rfl, Nat.zero_le _⟩
  | [], _ :: _, _, l, _, _ => by cases l
  | _ :: _, [], _, l, _, _ => by cases l
  | x :: xs, d :: ds, _, l, .cons a b, h => by
    obtain ⟨as, r1, p1, q1⟩ := k x d _ (h 0 x d rfl rfl) a
    obtain ⟨bs, r2, p2, q2⟩ := all_reads k (xs := xs) (ds := ds) (by simpa using l) b fun i y e hy he => h (i + 1) y e hy he
    refine ⟨_, .cons r1 r2, by rw [PyData.plainAll, p1, p2]; rfl, ?_⟩
    rw [PyData.depthAll]
    exact Nat.max_le.mpr ⟨q1, q2⟩
theorem At.reads (I : Inv X pins σ H s) : ∀ (n : Nat) (v : V) (d : PyData) (u : Value), At X.K H n v d → RelV v u → ∃ as, Reads s.heap u d as ∧ d.plain = true ∧ d.depth ≤ n
  | 0, v, d, u, h, r => by
    obtain ⟨a, b, c⟩ := atom_reads (s := s) h r
    exact ⟨_, a, b, Nat.le_of_eq c⟩
  | n + 1, v, d, u, h, r => by
    rcases h with h | ⟨a, xs, ds, rfl, l, h, k⟩
    · obtain ⟨a, b, c⟩ := atom_reads (s := s) h r
      exact ⟨_, a, b, by rw [c]; exact Nat.zero_le _⟩
    cases (show u = Value.ref a from r)
    rcases h with ⟨rfl, h⟩ | ⟨rfl, h⟩
    · obtain ⟨its, rv, ⟨o, m, e1, e2, _, e3⟩, _⟩ := I.list h
      obtain ⟨as, ra, pa, da⟩ := all_reads (s := s) (fun v d u => At.reads I n v d u) l rv k
      exact ⟨_, .list e1 e2 e3 (by simpa using ra), pa, by rw [PyData.depth]; omega⟩
    · obtain ⟨its, rv, ⟨o, e1, e2, m, e3⟩, _⟩ := I.tuple h
      obtain ⟨as, ra, pa, da⟩ := all_reads (s := s) (fun v d u => At.reads I n v d u) l rv k
      exact ⟨_, .tuple e1 e2 e3 (by simpa using ra), pa, by rw [PyData.depth]; omega⟩
end
section
variable {X : Cx}
def rEq (K : PySem.W.Frag) : R2 := fun x y H Q => ∃ d e, At K H 60 x d ∧ At K H 60 y e ∧ Q (.bl (PyData.eqv d e)) H
def rNe (K : PySem.W.Frag) : R2 := fun x y H Q => ∃ d e, At K H 60 x d ∧ At K H 60 y e ∧ Q (.bl (!PyData.eqv d e)) H
theorem op_eq (hu : X.A.units + 64 < cLine) : OpR X (compareOp .Eq) (rEq X.K) := by
  intro pins s σ H x y v u Q I rx ry h
  obtain ⟨d, e, hx, hy, q⟩ := h
  obtain ⟨as, r1, p1, q1⟩ := hx.reads I _ _ _ _ rx
  obtain ⟨bs, r2, p2, q2⟩ := hy.reads I _ _ _ _ ry
  exact SeqAt.eq_plain r1 r2 p1 p2 (by have := Nat.min_le_left d.depth e.depth; omega) ⟨.bl _, H, I, rfl, q⟩
theorem op_ne (hu : X.A.units + 64 < cLine) : OpR X (compareOp .NotEq) (rNe X.K) := by
  intro pins s σ H x y v u Q I rx ry h
  obtain ⟨d, e, hx, hy, q⟩ := h
  obtain ⟨as, r1, p1, q1⟩ := hx.reads I _ _ _ _ rx
  obtain ⟨bs, r2, p2, q2⟩ := hy.reads I _ _ _ _ ry
  exact SeqAt.ne_plain r1 r2 p1 p2 (by have := Nat.min_le_left d.depth e.depth; omega) ⟨.bl _, H, I, rfl, q⟩
def rIn (K : PySem.W.Frag) (neg : Bool) : R2 := fun x y H Q => ∃ (d : PyData) (ds : List PyData), At K H 60 x d ∧ (At K H 60 y (.list ds) ∨ At K H 60 y (.tuple ds)) ∧ Q (.bl (if neg then !(ds.any fun e => PyData.eqv e d) else ds.any fun e => PyData.eqv e d)) H
theorem mins {n a b : Nat} (h : a + 1 ≤ n) : min a b ≤ n := Nat.le_trans (Nat.min_le_left _ _) (by omega)
theorem op_in (hu : X.A.units + 64 < cLine) : OpR X (compareOp .In) (rIn X.K false) := by
  intro pins s σ H x y v u Q I rx ry h
  obtain ⟨d, ds, hx, hy, q⟩ := h
  obtain ⟨as, r1, p1, q1⟩ := hx.reads I _ _ _ _ rx
  rcases hy with hy | hy
  · obtain ⟨bs, r2, p2, q2⟩ := hy.reads I _ _ _ _ ry
    have := mins (b := d.depth) q2
    exact SeqAt.in_list_data r2 r1 p2 p1 (by omega) ⟨.bl _, H, I, rfl, q⟩
  · obtain ⟨bs, r2, p2, q2⟩ := hy.reads I _ _ _ _ ry
    have := mins (b := d.depth) q2
    exact SeqAt.in_tuple_data r2 r1 p2 p1 (by omega) ⟨.bl _, H, I, rfl, q⟩
theorem op_notIn (hu : X.A.units + 64 < cLine) : OpR X (compareOp .NotIn) (rIn X.K true) := by
  intro pins s σ H x y v u Q I rx ry h
  obtain ⟨d, ds, hx, hy, q⟩ := h
  obtain ⟨as, r1, p1, q1⟩ := hx.reads I _ _ _ _ rx
  rcases hy with hy | hy
  · obtain ⟨bs, r2, p2, q2⟩ := hy.reads I _ _ _ _ ry
    have := mins (b := d.depth) q2
    exact SeqAt.notIn_list_data r2 r1 p2 p1 (by omega) ⟨.bl _, H, I, rfl, q⟩
  · obtain ⟨bs, r2, p2, q2⟩ := hy.reads I _ _ _ _ ry
    have := mins (b := d.depth) q2
    exact SeqAt.notIn_tuple_data r2 r1 p2 p1 (by omega) ⟨.bl _, H, I, rfl, q⟩
end
/-! data without truth values: == is equality -/
mutual
def nb : PyData → Bool
  | .none | .int _ | .str _ => true
  | .bool _ => false
  | .list xs | .tuple xs => nbs xs
  | .dict _ => false
def nbs : List PyData → Bool
  | [] => true
  | x :: xs => nb x && nbs xs
end
mutual
theorem eqv_iff : ∀ {d e : PyData}, nb d = true → nb e = true → (PyData.eqv d e = true ↔ d = e)
  | .bool _, _, h, _ => by cases h
  | .dict _, _, h, _ => by cases h
  | _, .bool _, _, h => by cases h
  | _, .dict _, _, h => by cases h
  | .none, .none, _, _ => by simp [PyData.eqv]
  | .none, .int _, _, _ => by simp [PyData.eqv]
  | .none, .str _, _, _ => by simp [PyData.eqv]
  | .none, .list _, _, _ => by simp [PyData.eqv]
  | .none, .tuple _, _, _ => by simp [PyData.eqv]
  | .int _, .none, _, _ => by simp [PyData.eqv]
  | .int _, .int _, _, _ => by simp [PyData.eqv]
  | .int _, .str _, _, _ => by simp [PyData.eqv]
  | .int _, .list _, _, _ => by simp [PyData.eqv]
  | .int _, .tuple _, _, _ => by simp [PyData.eqv]
  | .str _, .none, _, _ => by simp [PyData.eqv]
  | .str _, .int _, _, _ => by simp [PyData.eqv]
  | .str _, .str _, _, _ => by simp [PyData.eqv]
  | .str _, .list _, _, _ => by simp [PyData.eqv]
  | .str _, .tuple _, _, _ => by simp [PyData.eqv]
  | .list _, .none, _, _ => by simp [PyData.eqv]
  | .list _, .int _, _, _ => by simp [PyData.eqv]
  | .list _, .str _, _, _ => by simp [PyData.eqv]
  | .list xs, .list ys, h, k => by rw [PyData.eqv, eqvs_iff (xs := xs) (ys := ys) (by simpa [nb] using h) (by simpa [nb] using k)]; simp
  | .list _, .tuple _, _, _ => by simp [PyData.eqv]
  | .tuple _, .none, _, _ => by simp [PyData.eqv]
  | .tuple _, .int _, _, _ => by simp [PyData.eqv]
  | .tuple _, .str _, _, _ => by simp [PyData.eqv]
  | .tuple _, .list _, _, _ => by simp [PyData.eqv]
  | .tuple xs, .tuple ys, h, k => by rw [PyData.eqv, eqvs_iff (xs := xs) (ys := ys) (by simpa [nb] using h) (by simpa [nb] using k)]; simp
theorem eqvs_iff : ∀ {xs ys : List PyData}, nbs xs = true → nbs ys = true → (PyData.eqvAll xs ys = true ↔ xs = ys)
  | [], [], _, _ => by simp [PyData.eqvAll]
  | [], _ :: _, _, _ => by simp [PyData.eqvAll]
  | _ :: _, [], _, _ => by simp [PyData.eqvAll]
  | x :: xs, y :: ys, h, k => by
    rw [nbs, Bool.and_eq_true] at h k
    rw [PyData.eqvAll, Bool.and_eq_true, eqv_iff h.1 k.1, eqvs_iff h.2 k.2]
    simp
end
end DaT

/-! own: a law whose own text shows lists: what is told of it only under the judge's call, where no repr is under way -/
namespace GdL
open PySem PySem.Spec PyProof.Rows L2
section
variable {P : Program} {w : World} {K : PySem.W.Frag} {mg : Str → Option Value} {base : Heap}
/-- how a def runs, where no repr is under way -/
def RunG (P : Program) (w : World) (K : PySem.W.Frag) (mg : Str → Option Value) (base : Heap) (k : Nat) (f : Addr) (fd : FuncData) (ps : List Str) (sp : Sp) : Prop :=
  ∀ (A : Around), A.guards = some [] → ∀ (out : List Env) (s : Shared) (H : Hp) (ar : Args) (us : List Value) (vs : List V) (Q : VK) (E : XK), Room k A →
    Env0 P w K mg base A out s H → BindsTo s fd ar (ps.zip us) → Vals vs us → sp vs H Q E → codeAny (model P w) A (.call (.ref f) ar) (CR CX0 out P w H s Q E) s
/-- Fun.ok's twin -/
theorem run_of {x qual : Str} {st : Stmt} {f : Addr} {fd : FuncData} {N ps : List Str} {k : Nat} {sp : Sp} (F : Fun K x qual st f fd) (S : FnScope N ps (defScope st)) (len : ∀ vs H Q E, sp vs H Q E → vs.length = ps.length)
    (body : ∀ (cdv : Value) (A : Around) (outer : List Env) (s : Shared) (H : Hp) (vs : List V) (Q : VK) (E : XK), A.guards = some [] → Room k (A.deeper (envOfC qual (defScope st) s.heap.objs.size f cdv)) → sp vs H Q E →
      ∃ t, PSs (cxOf CX0 P w K mg base N qual (defScope st) f cdv A outer s H E).nox (defBody st) t ∧ t { nx := fun _ H' => Q .non H', rt := Q } (start N vs) H) : RunG P w K mg base (k + 1) f fd ps sp := by
  obtain ⟨oc, od, kV, doc, pm, an, cdv, ct, osl, rfl, lk, hc⟩ := F.ex
  intro A hg out s H ar us vs Q E hr e0 hb rv hsp
  have kept : ∀ {b : Addr} {o : Obj}, base.get? b = some o → s.heap.get? b = some o := fun e => (e0.bs _ _ e).1
  have KS : K.In s.heap := e0.mod.kin.keeps fun b o e => kept e
  have kinds : ∀ y ∈ ps.zip us, (defScope st).names.lookup y.1 = some .local ∨ ((defScope st).names.lookup y.1 = some .cell ∧ ((cellsFrom (s.heap.objs.size + 1) (defScope st).names []).lookup y.1).isSome = true) := by
    rintro ⟨n, v⟩ hy
    cases S.par n (List.of_mem_zip hy).1 with
    | inl q => exact Or.inl q
    | inr q => exact Or.inr ⟨q, PySem.W.cellsFrom_some _ _ _ (Or.inl q)⟩
  apply codeAny_call_function hr.depth (KS _ _ lk) rfl S.co S.gen rfl (PySem.W.codeRec_of KS hc)
  apply hb
  refine wpAny_newFunctionEnv_cells S.kind kinds fun env he s1 y => ?_
  subst he
  refine ⟨(e0.mod.nolimit.keeps fun b o e => kept e).keeps y.toInCall.keep, codeAny_func ?_⟩
  obtain ⟨t, ht, hq⟩ := body cdv A out s H vs Q E hg (hr.deeper _) hsp
  have J0 := inv_start (CX := CX0) (E := E) S hr.hd e0 (len _ _ _ _ hsp) rv y
  have run := ht.nox.run [] s1 (start N vs) H _ J0 hq
  refine wpAny_mono run (fun fl s' hs => ?_) fun e s' hs => hs
  cases fl with
  | ret u => obtain ⟨v, σ', H', J, r, q⟩ := hs; exact ⟨v, H', J.os, J.bare, J.base, J.hok, r, q⟩
  | next => obtain ⟨σ', H', J, q⟩ := hs; exact ⟨V.non, H', J.os, J.bare, J.base, J.hok, rfl, q⟩
  | brk => obtain ⟨_, _, _, q⟩ := hs; exact q.elim
  | cont => obtain ⟨_, _, _, q⟩ := hs; exact q.elim
end
/-- what the script is to the law: an object that nothing changes -/
def scr (a : Addr) (vs : List Value) (ns : List Int) : Hp := fun b => if b = a then some (.frz { cls := .type "list", data := .seq vs.toArray } (.lst (ns.map V.int))) else none
theorem scr_at {a b : Addr} {vs : List Value} {ns : List Int} {u : HO} (h : scr a vs ns b = some u) : b = a ∧ u = .frz { cls := .type "list", data := .seq vs.toArray } (.lst (ns.map V.int)) := by
  unfold scr at h
  by_cases e : b = a
  · rw [if_pos e] at h; exact ⟨e, (Option.some.inj h).symm⟩
  · rw [if_neg e] at h; cases h
theorem scr_self {a : Addr} {vs : List Value} {ns : List Int} : scr a vs ns a = some (.frz { cls := .type "list", data := .seq vs.toArray } (.lst (ns.map V.int))) := by
  unfold scr
  rw [if_pos rfl]
section
variable {P : Program} {w : World} {K : PySem.W.Frag} {mg mb : Str → Option Value} {k : Nat} {fa a : Addr} {fd : FuncData} {x : Str} {sp : Sp} {s : Shared} {vs : List Value} {ns : List Int}
/-- one call of the law from a heap H in which nothing but the script is tracked -/
theorem call_one {H : Hp} (KX : K.In s.heap) (hns : s.heap.Ns mainGlobals mg) (hb : s.heap.Ns builtinsNs mb) (hbb : ∀ x : Str, x ≠ "__name__" → mb x = bootBuiltins x) (hlim : s.heap.NoLimit) (hg : s.gens = #[])
    (ha : s.heap.get? a = some { cls := .type "list", data := .seq vs.toArray }) (hr : Room k callerA) (F : ∀ base : Heap, K.In base → base.Ns mainGlobals mg → RunG P w K mg base k fa fd [x] sp)
    (hbind : ∀ (s : Shared) (u : Value), BindsTo s fd ⟨[u], []⟩ [(x, u)]) (hsp : sp [.ref a] H (fun v _ => v = .bl true) fun _ _ _ => False)
    (hH : ∀ b u, H b = some u → b = a ∧ K.lookup a = none ∧ u = .frz { cls := .type "list", data := .seq vs.toArray } (.lst (ns.map V.int))) (hok : HOk P w H s.heap) :
    codeAny (model P w) callerA (.call (.ref fa) ⟨[.ref a], []⟩) (fun r s' => r = .ok (.ret (.bool true)) ∧ OldK s.heap s'.heap ∧ s'.os = s.os ∧ AllBare s'.gens) s := by
  have free : ∀ {b : Addr} {o : Obj}, s.heap.get? b = some o → (b = a → o ≠ { cls := .type "list", data := .seq vs.toArray } ∨ K.lookup a ≠ none) → H b = none := fun {b o} e n => by
    cases q : H b with
    | none => rfl
    | some u =>
      obtain ⟨e1, e2, _⟩ := hH b u q
      subst e1
      rw [ha] at e
      rcases n rfl with z | z
      · exact absurd (Option.some.inj e).symm z
      · exact absurd e2 z
  have hidden : ∀ {b : Addr} {o : Obj}, s.heap.get? b = some o → H b = none → (hidT s.heap H).get? b = some o := fun e n => hidT_get e n
  have nsT : ∀ {b : Addr} {m : Str → Option Value}, s.heap.Ns b m → (hidT s.heap H).Ns b m := by
    rintro b m ⟨o, es, ep, e, d, r⟩
    refine ⟨o, es, ep, hidden e (free e fun _ => Or.inl fun z => ?_), d, r⟩
    rw [z] at d
    cases (show Data.seq vs.toArray _ = Data.dict es ep from d)
  have KT : K.In (hidT s.heap H) := fun b o e => by
    refine hidden (KX b o e) ?_
    cases q : H b with
    | none => rfl
    | some u =>
      obtain ⟨e1, e2, _⟩ := hH b u q
      rw [e1, e2] at e
      cases e
  have modT : Mod K mg (hidT s.heap H) := by
    obtain ⟨mc, c1, c2⟩ := hlim
    exact ⟨KT, nsT hns, ⟨mb, nsT hb, hbb⟩, ⟨mc, nsT c1, c2⟩⟩
  have start : Env0 P w K mg (hidT s.heap H) callerA [] s H := by
    refine ⟨rfl, modT, fun b o e => of_hidT e, Nat.le_of_eq (hidT_size _ _), trivial, fun b hb => ?_, hok, .of_eq hg⟩
    cases (show b ∈ ([] : List Addr) from hb)
  have run := F _ KT (nsT hns) callerA rfl [] s H ⟨[.ref a], []⟩ [.ref a] [.ref a] _ _ hr start (hbind s (.ref a)) (.cons rfl .nil) hsp
  refine codeAny_mono run fun r s' h => ?_
  cases r with
  | error e => exact False.elim h
  | ok fl =>
    cases fl with
    | next => exact False.elim h
    | brk => exact False.elim h
    | cont => exact False.elim h
    | ret u =>
      obtain ⟨v, H', os, bare, un, hok', rel, q⟩ := h
      have q' : v = .bl true := q
      rw [q'] at rel
      obtain rfl : u = Value.bool true := rel
      refine ⟨rfl, OldK.of_keep fun b o e => ?_, os, bare⟩
      cases q : H b with
      | none => exact un.keep b o e q (fun z => by cases (show b ∈ ([] : List Addr) from z)) (by simp)
      | some u =>
        obtain ⟨_, _, e3⟩ := hH b u q
        rw [e3] at q
        have z2 := un.frzs b _ _ q
        have f1 := (hok b _ q).1
        rw [e] at f1
        cases f1
        exact (hok' b _ z2).1
/-- the law's call -/
theorem law_callG (KX : K.In s.heap) (hns : s.heap.Ns mainGlobals mg) (hb : s.heap.Ns builtinsNs mb) (hbb : ∀ x : Str, x ≠ "__name__" → mb x = bootBuiltins x) (hlim : s.heap.NoLimit) (hg : s.gens = #[])
    (ha : s.heap.get? a = some { cls := .type "list", data := .seq vs.toArray }) (hi : IntsAre vs ns) (hl : ns.length ≤ sizeLine) (hr : Room k callerA) (F : ∀ base : Heap, K.In base → base.Ns mainGlobals mg → RunG P w K mg base k fa fd [x] sp)
    (hbind : ∀ (s : Shared) (u : Value), BindsTo s fd ⟨[u], []⟩ [(x, u)]) (hsp : ∀ H : Hp, SqL K H a (ns.map V.int) → sp [.ref a] H (fun v _ => v = .bl true) fun _ _ _ => False) :
    codeAny (model P w) callerA (.call (.ref fa) ⟨[.ref a], []⟩) (fun r s' => r = .ok (.ret (.bool true)) ∧ OldK s.heap s'.heap ∧ s'.os = s.os ∧ AllBare s'.gens) s := by
  have rv := vals_ints hi
  have lenV := hi.length
  cases hk : K.lookup a with
  | some o =>
    have e := KX a o hk
    rw [ha] at e
    have eo := Option.some.inj e
    subst eo
    have nothing : ∀ (b : Addr) (u : HO), (fun _ => none : Hp) b = some u → False := fun b u z => by cases (show (none : Option HO) = some u from z)
    exact call_one (H := fun _ => none) (ns := ns) KX hns hb hbb hlim hg ha hr F hbind (hsp _ (.inr ⟨_, vs.toArray, _, hk, rfl, rfl, rfl, by rw [List.size_toArray, lenV]; exact hl, by simpa using rv⟩)) (fun b u z => (nothing b u z).elim) fun b u z => (nothing b u z).elim
  | none =>
    refine call_one (H := scr a vs ns) (ns := ns) KX hns hb hbb hlim hg ha hr F hbind (hsp _ (.inl (.inr ⟨_, scr_self⟩))) (fun b u z => ⟨(scr_at z).1, hk, (scr_at z).2⟩) fun b u z => ?_
    obtain ⟨rfl, rfl⟩ := scr_at z
    exact ⟨ha, by rw [List.length_map]; exact hl, vs, _, rv, ha⟩
end
/-- the judge's goal from the law's promise -/
theorem walk_ofG {l : PySem.W.OpenLaw} {n k : Nat} {q : Program} {loose : List Str} {XP : (Str → Option Value) → Heap → Prop} {YP : World → Heap → Prop} {d : DefRec} {K : Params → PySem.W.Frag} {sp : World → Sp} {x : Str}
    (hn : l.most = some n) (hn2 : n ≤ sizeLine) (hdf : d.params.defaults = []) (hr : Room k callerA) (hY : ∀ (w : World) (h : Heap), YP w h → (K w.params).In h)
    (F : ∀ (w : World) (mg : Str → Option Value) (fa : Addr) (h : Heap), (K w.params).In h → h.Ns mainGlobals mg → mg d.name = some (.ref fa) →
      ∃ fd : FuncData, (∀ (s : Shared) (u : Value), BindsTo s fd ⟨[u], []⟩ [(x, u)]) ∧ ∀ base : Heap, (K w.params).In base → base.Ns mainGlobals mg → RunG l.prog w (K w.params) mg base k fa fd [x] (sp w))
    (hsp : ∀ (w : World) (H : Hp) (a : Addr) (ns : List Int), ns.length ≤ n → SqL (K w.params) H a (ns.map V.int) → sp w [.ref a] H (fun v _ => v = .bl true) fun _ _ _ => False) :
    PySem.W.WalkO q loose XP YP l.row.toRowW d [] (fun f vs => PySem.call f vs) := by
  refine Att.attach_call hn hdf fun w s₀ s₁ mg mb fa o pm cd doc a vs ns G Y _ _ _ hm hobj hints hlen hgens => ?_
  have KX := hY w _ Y
  obtain ⟨fd, bind, FF⟩ := F w mg fa _ KX G.T.g hm
  exact law_callG KX G.T.g G.T.b G.T.builtins G.T.nolimit hgens hobj hints (Nat.le_trans hlen hn2) hr FF bind fun H hS => hsp w H a ns hlen hS
/-! ### repr of data -/
section
variable {X : Cx}
theorem call_reprD (hg : X.A.guards = some []) (hu : X.A.units + 64 < cLine) : CallR X (.builtin "repr") (fun xs H Q => ∃ (a : Addr) (d : PyData), xs = [.ref a] ∧ DaT.At X.K H 50 (.ref a) d ∧ d.showable = true ∧ d.hasDict = false ∧ d.shown.length ≤ sizeLine ∧ Q (.str d.shown) H) := by
  intro pins s σ H xs us Q I rv h
  obtain ⟨a, d, rfl, hd, hs, hn, hz, q⟩ := h
  obtain ⟨u, rfl, ru⟩ := vals1 rv
  cases (show u = Value.ref a from ru)
  obtain ⟨as, rd, _, dd⟩ := DaT.At.reads I _ _ _ _ hd (show RelV (.ref a) (.ref a) from rfl)
  exact PySem.repr_of_reads' rd hs (fun e => by rw [hn] at e; cases e) hg (by omega) (fun _ _ e => e) (fun h' u tk hk => ⟨.str d.shown, H, I.kept hk, ⟨u, rfl⟩, q⟩) hz
end
theorem gD {P : Program} {w : World} {K : PySem.W.Frag} {mg : Str → Option Value} {base : Heap} {N : List Str} {qual : Str} {sc : Scope} {f : Addr} {cd : Value} {A : Around} {out : List Env} {s : Shared} {H : Hp} {E : XK} (h : A.guards = some []) : (cxOf CX0 P w K mg base N qual sc f cd A out s H E).nox.A.guards = some [] := h
end GdL

/-! own: zip of a list and a tuple -/
namespace ZpL
open PySem PySem.Spec PyProof.Rows L2
def Izl (K : PySem.W.Frag) (a b : Addr) : It :=
  ⟨fun i H => ∃ (xs ys : List V) (x y : V), SqL K H a xs ∧ SqT K H b ys ∧ xs[i]? = some x ∧ ys[i]? = some y, fun i H v H' => ∃ pr x y, v = .ref pr ∧ H pr = none ∧ H' = upd H pr (.tup [x, y]) ∧ (∀ xs, SqL K H a xs → xs[i]? = some x) ∧ ∀ ys, SqT K H b ys → ys[i]? = some y, fun i H => ∃ xs ys : List V, SqL K H a xs ∧ SqT K H b ys ∧ i ≤ xs.length ∧ i ≤ ys.length ∧ (i = xs.length ∨ i = ys.length)⟩
/-- what a zip of the two keeps -/
def Tn (z TI TO i1 i2 a b : Addr) (i : Nat) (h : Heap) : Prop := IsZip h z TI TO .none ∧ IsTupOf2 h TI (.ref i1) (.ref i2) ∧ (∃ x y, IsTupOf2 h TO x y) ∧ h.IsListIter i1 a i ∧ h.IsTupleIter i2 b i
theorem mem5 {c z TI TO i1 i2 : Addr} (h : c ∈ [z, TI, TO, i1, i2]) : c = z ∨ c = TI ∨ c = TO ∨ c = i1 ∨ c = i2 := by simpa using h
theorem turn_zl {P : Program} {w : World} {K : PySem.W.Frag} {elts : List Expr} {kk : Nat} {tpos : Pos} {a b z TI TO i1 i2 : Addr} (S : ZipSep2 z TI TO i1 i2 [i1, a] [i2, b]) :
    Turn P w K (.Tuple elts kk tpos) (Izl K a b) [z, TI, TO, i1, i2] z (Tn z TI TO i1 i2 a b) where
  mem := List.mem_cons_self
  obj := fun i h tn c hc => by
    obtain ⟨tz, tI, ⟨x, y, tO⟩, ⟨o1, e1, _, d1⟩, ⟨o2, e2, _, d2⟩⟩ := tn
    rcases mem5 hc with q | q | q | q | q <;> rw [q]
    · exact ⟨_, tz, fun v y => nomatch y⟩
    · exact ⟨_, tI, fun v y => nomatch y⟩
    · exact ⟨_, tO, fun v y => nomatch y⟩
    · exact ⟨o1, e1, fun v y => by rw [d1] at y; cases y⟩
    · exact ⟨o2, e2, fun v y => by rw [d2] at y; cases y⟩
  keep := fun i h h' tn kp => by
    obtain ⟨tz, tI, ⟨x, y, tO⟩, t1, t2⟩ := tn
    exact ⟨kp z (by simp) _ tz, kp TI (by simp) _ tI, ⟨x, y, kp TO (by simp) _ tO⟩, t1.at fun o e => kp i1 (by simp) o e, t2.at fun o e => kp i2 (by simp) o e⟩
  item := by
    intro X hP hw hK hc i pins s σ H E I hf tn hg
    subst hP hw hK
    obtain ⟨tz, tI, ⟨x0, y0, tO⟩, t1, t2⟩ := tn
    obtain ⟨xs, ys, x, y, qx, qy, hx, hy⟩ := hg
    obtain ⟨its, rv, p1, _⟩ := I.list qx
    obtain ⟨jts, rw2, p2, _⟩ := I.tuple qy
    obtain ⟨u, hu, ru⟩ := rv.get hx
    obtain ⟨v, hv, rv2⟩ := rw2.get hy
    have l1 : s.heap.IsList a its.toArray := p1.isList
    have l2 : s.heap.IsTuple b jts.toArray := p2
    have na : a ≠ i1 := fun e => by
      obtain ⟨_, _, g1, c1, _⟩ := p1
      obtain ⟨_, g2, c2, _⟩ := t1
      rw [e, g2] at g1
      cases g1
      rw [c1] at c2
      exact absurd (Value.type.inj c2) (by decide)
    have nb : b ≠ i2 := fun e => by
      obtain ⟨_, g1, c1, _⟩ := l2
      obtain ⟨_, g2, c2, _⟩ := t2
      rw [e, g2] at g1
      cases g1
      rw [c1] at c2
      exact absurd (Value.type.inj c2) (by decide)
    have hh : X.A.in1.handled = none := I.ok.hd hc
    have zl : z < s.heap.objs.size := Heap.lt_size tz
    refine wpAny_pyNext_zipD2_item S (Draws.list hh i1 a na its.toArray) (Draws.tuple hh i2 b nb jts.toArray) tz tI tO ⟨t1, l1⟩ ⟨t2, l2⟩ ?_ ?_ fun u' v' h2 tk hu' hv' z2 O2 s1 s2 hT hs kp => ?_
    · have := (List.getElem?_eq_some_iff.mp hu).1
      simpa using this
    · have := (List.getElem?_eq_some_iff.mp hv).1
      simpa using this
    have eu : u' = u := by
      have h : its.toArray[i]? = some u' := hu'
      rw [List.getElem?_toArray, hu] at h
      exact (Option.some.inj h).symm
    have ev : v' = v := by
      have h : jts.toArray[i]? = some v' := hv'
      rw [List.getElem?_toArray, hv] at h
      exact (Option.some.inj h).symm
    subst eu ev
    refine ⟨_, rfl, wpAny_letOwnedTupleGo_zip (s := { s with heap := h2, toks := tk }) z2 fun h3 z3 sb => ?_⟩
    have T3 : h3.get? s.heap.objs.size = some { cls := .type "tuple", data := .seq #[u', v'] } := (sb.2 _ (Nat.ne_of_gt zl)).trans hT
    have made : ObjOk X.prog X.w (upd H s.heap.objs.size (.tup [x, y])) h3 s.heap.objs.size (.tup [x, y]) := ⟨by show 2 ≤ sizeLine; decide, [u', v'], .cons ru (.cons rv2 .nil), ⟨_, T3, rfl, _, rfl⟩⟩
    have I3 : Inv X pins σ (upd H s.heap.objs.size (.tup [x, y])) { s with heap := h3, toks := tk } :=
      I.turnedNew (ch := [z, TI, TO, i1, i2]) (fun c o nc e => (sb.2 c (fun y => nc (by simp [y]))).trans (kp c o (fun y => nc (by simp [y])) (fun y => nc (by simp [y])) (fun y => nc (by simp [y])) (fun y => nc (by simp [y])) e)) hf (Nat.le_refl _) made
    refine ⟨.ref s.heap.objs.size, _, I3, rfl, ⟨_, x, y, rfl, I.hok.fresh (Nat.le_refl _), rfl, fun l hl => by rw [I.list_inj hl qx]; exact hx, fun l hl => by rw [I.tuple_inj hl qy]; exact hy⟩, ⟨z3, ?_, ⟨_, _, (sb.2 _ S.TOz).trans O2⟩, s1.1.at fun o e => (sb.2 _ S.zi1.symm).trans e, s2.1.at fun o e => (sb.2 _ S.zi2.symm).trans e⟩, fun c hc => ?_⟩
    · exact (sb.2 _ S.TIz).trans (kp _ _ S.TIz S.TITO S.TIi1 S.TIi2 tI)
    · have lc : c < s.heap.objs.size := by
        rcases mem5 hc with q | q | q | q | q <;> rw [q]
        · exact zl
        · exact Heap.lt_size tI
        · exact Heap.lt_size tO
        · obtain ⟨_, e1, _⟩ := t1; exact Heap.lt_size e1
        · obtain ⟨_, e2, _⟩ := t2; exact Heap.lt_size e2
      rw [upd_ne (Nat.ne_of_lt lc)]
      exact (hf c hc).1
  done := by
    intro X hP hw hK hc i pins s σ H E I hf tn hg
    subst hP hw hK
    obtain ⟨tz, tI, ⟨x0, y0, tO⟩, t1, t2⟩ := tn
    obtain ⟨xs, ys, qx, qy, le1, le2, hend⟩ := hg
    obtain ⟨its, rv, p1, _⟩ := I.list qx
    obtain ⟨jts, rw2, p2, _⟩ := I.tuple qy
    have l1 : s.heap.IsList a its.toArray := p1.isList
    have l2 : s.heap.IsTuple b jts.toArray := p2
    have na : a ≠ i1 := fun e => by
      obtain ⟨_, _, g1, c1, _⟩ := p1
      obtain ⟨_, g2, c2, _⟩ := t1
      rw [e, g2] at g1
      cases g1
      rw [c1] at c2
      exact absurd (Value.type.inj c2) (by decide)
    have nb : b ≠ i2 := fun e => by
      obtain ⟨_, g1, c1, _⟩ := l2
      obtain ⟨_, g2, c2, _⟩ := t2
      rw [e, g2] at g1
      cases g1
      rw [c1] at c2
      exact absurd (Value.type.inj c2) (by decide)
    have hh : X.A.in1.handled = none := I.ok.hd hc
    have n1 : its.toArray.size = xs.length := by have := rv.length; simp; omega
    have n2 : jts.toArray.size = ys.length := by have := rw2.length; simp; omega
    exact wpAny_pyNext_zipD2_end S (Draws.list hh i1 a na its.toArray) (Draws.tuple hh i2 b nb jts.toArray) tz tI tO ⟨t1, l1⟩ ⟨t2, l2⟩ (by omega) (by omega) (by omega) fun h2 tk kp => ⟨rfl, I.turnedL (ch := [z, TI, TO, i1, i2]) (fun c o nc e =>
      kp c o (fun y => nc (by simp [y])) (fun y => nc (by simp [y])) (fun y => nc (by simp [y])) (fun y => nc (by simp [y])) e) hf⟩
  self := fun A i s Q E tn q => wpAny_pyIter_zip tn.1 q
def iZl (K : PySem.W.Frag) (ta : TA) : TI := fun σ H R => ta σ H fun vs H1 => ∃ a b xs ys, vs = [.ref a, .ref b] ∧ SqL K H1 a xs ∧ SqT K H1 b ys ∧ R (Izl K a b) H1
theorem pi_zl {X : Cx} {e e2 : Expr} {ta : TA} {p pos tpos : Pos} {elts : List Expr} {kk : Nat} (hg : Gl X "zip") (hm : X.mg "zip" = none) (ha : PA X [e, e2] ta)
    (hs : starEach [e, e2] X.env = (false, eval e X.env) :: starEach [e2] X.env := by rfl) (hpl : (backTo pos (starEach [e2] X.env)).any (·.1) = false := by rfl) : PI X (.Tuple elts kk tpos) (.Call (.Name "zip" p) [e, e2] [] pos) (iZl X.K ta) := by
  constructor
  intro pins s σ H R I h
  refine Call_ (ld_blt I hg hm PyProof.Rows.boot_zip (PyProof.Rows.callWith_type1 (thn (ha.run pos pins s σ H _ I h) fun us s1 ⟨vs, H1, I1, r1, q1⟩ => ?_) hs hpl))
  obtain ⟨a, b, xs, ys, ev, qx, qy, fin⟩ := q1
  subst ev
  cases r1 with
  | cons ra rr =>
    cases rr with
    | cons rb rr =>
      cases rr
      cases ra
      cases rb
      obtain ⟨its, rv, p1, _⟩ := I1.list qx
      obtain ⟨jts, rw2, p2, _⟩ := I1.tuple qy
      have l1 : s1.heap.IsList a its.toArray := p1.isList
      have l2 : s1.heap.IsTuple b jts.toArray := p2
      have la : a < s1.heap.objs.size := p1.lt
      have lb : b < s1.heap.objs.size := by obtain ⟨_, e1, _⟩ := id l2; exact Heap.lt_size e1
      refine zip_begins2 (begins_list a its.toArray) (begins_tuple b jts.toArray) l1 l2 fun h2 z2 T2 O2 g1 g2 sz2 kp => wpAny_pyIter_zip z2 ?_
      refine ⟨s1.heap.objs.size + 4, [s1.heap.objs.size + 4, s1.heap.objs.size + 2, s1.heap.objs.size + 3, s1.heap.objs.size, s1.heap.objs.size + 1], Tn (s1.heap.objs.size + 4) (s1.heap.objs.size + 2) (s1.heap.objs.size + 3) s1.heap.objs.size (s1.heap.objs.size + 1) a b, _, H1, rfl, I1.kept (t' := s1.toks) kp, turn_zl ?_, ⟨z2, T2, ⟨_, _, O2⟩, ⟨_, g1, rfl, rfl⟩, ⟨_, g2, rfl, rfl⟩⟩, fun c hc => ?_, fin⟩
      · generalize s1.heap.objs.size = n at *
        constructor
        all_goals first
          | exact List.mem_cons_self
          | (intro q; rcases List.mem_cons.mp q with q | q <;> (try rw [List.mem_singleton] at q) <;> (have la' : (a : Nat) < n := la; have lb' : (b : Nat) < n := lb; unfold Addr at *; omega))
          | (intro q; unfold Addr at *; omega)
      · have lc : s1.heap.objs.size ≤ c := by
          rcases mem5 hc with q | q | q | q | q <;> rw [q]
          · exact Nat.le_add_right _ _
          · exact Nat.le_add_right _ _
          · exact Nat.le_add_right _ _
          · exact Nat.le_refl _
          · exact Nat.le_add_right _ _
        exact I1.fpOk lc (I1.hok.fresh lc)
theorem walk_zl {K : PySem.W.Frag} {a b : Addr} {xs ys : List V} (h1 : ys.length = xs.length) : Walk (Izl K a b) xs.length (fun H => SqL K H a xs ∧ SqT K H b ys) (YPair (fun i => xs[i]?) (fun i => ys[i]?)) := by
  refine ⟨fun i _ hi q => ?_, fun _ q => ⟨xs, ys, q.1, q.2, by omega, by omega, .inl rfl⟩, fun i H v H' _ q y => ?_⟩
  · exact ⟨xs, ys, xs[i], ys[i]'(by omega), q.1, q.2, List.getElem?_eq_getElem _, List.getElem?_eq_getElem _⟩
  · obtain ⟨T, x, z, e1, e2, e3, e4, e5⟩ := y
    exact ⟨T, x, z, e1, e2, e3, e4 xs q.1, e5 ys q.2⟩
end ZpL

/-! own: two lists of the same objects, compared -/
namespace SmE
open PySem PySem.Spec PyProof.Rows L2
def One (v : V) : Prop := flatB v = true ∨ ∃ c, v = .ref c
theorem eq_one {A : Around} {s : Shared} {v : V} {u u' : Value} (r : RelV v u) (r' : RelV v u') (f : One v) : SeqAt.EqAt A s u u' true := by
  rcases f with f | ⟨c, rfl⟩
  · exact eqAt_same r r' f
  · cases (show u = Value.ref c from r)
    cases (show u' = Value.ref c from r')
    exact SeqAt.EqAt.same _
theorem vals_at : ∀ {xs : List V} {its its2 : List Value}, Vals xs its → Vals xs its2 → ∀ (j : Nat) (h1 : j < its.length) (h2 : j < its2.length), ∃ v ∈ xs, RelV v its[j] ∧ RelV v its2[j]
  | [], _, _, .nil, _, j, h1, _ => absurd h1 (Nat.not_lt_zero _)
  | x :: xs, _, _, .cons a b, .cons c d, 0, _, _ => ⟨x, List.mem_cons_self, a, c⟩
  | x :: xs, _, _, .cons a b, .cons c d, j + 1, h1, h2 => by
    obtain ⟨v, hv, p, q⟩ := vals_at b d j (by simpa using h1) (by simpa using h2)
    exact ⟨v, List.mem_cons_of_mem _ hv, p, q⟩
theorem vals_len : ∀ {xs : List V} {its : List Value}, Vals xs its → xs.length = its.length
  | [], _, .nil => rfl
  | _ :: _, _, .cons _ b => by rw [List.length_cons, List.length_cons, vals_len b]
section
variable {X : Cx}
def rNeSame (K : PySem.W.Frag) : R2 := fun x y H Q => ∃ (a b : Addr) (xs : List V), x = .ref a ∧ y = .ref b ∧ SqL K H a xs ∧ SqL K H b xs ∧ (∀ z ∈ xs, One z) ∧ Q (.bl false) H
theorem op_neSame (hu : X.A.units < cLine) : OpR X (compareOp .NotEq) (rNeSame X.K) := by
  intro pins s σ H x y v u Q I rx ry h
  obtain ⟨a, b, xs, rfl, rfl, ha, hb, one, q⟩ := h
  cases rx
  cases ry
  obtain ⟨its, rv, l1, _⟩ := I.list ha
  obtain ⟨its2, rv2, l2, _⟩ := I.list hb
  have l1' : s.heap.IsList a its.toArray := by obtain ⟨o, n, ho, hc, _, hd⟩ := l1; exact ⟨o, ho, hc, n, hd⟩
  have l2' : s.heap.IsList b its2.toArray := by obtain ⟨o, n, ho, hc, _, hd⟩ := l2; exact ⟨o, ho, hc, n, hd⟩
  clear l1 l2
  have le : its.toArray.size = its2.toArray.size := by
    show its.length = its2.length
    rw [← vals_len rv, ← vals_len rv2]
  have key := SeqAt.RcNeAt.lists l1' l2' le hu (e := fun _ => true) (fun j h1 h2 => by
    obtain ⟨v, hv, p, q⟩ := vals_at rv rv2 j h1 h2
    exact eq_one (by simpa using p) (by simpa using q) (one v hv)) X.prog X.w
  rw [show ((List.range its.toArray.size).all fun _ => true) = true by simp] at key
  exact key _ _ ⟨.bl _, H, I, rfl, q⟩
end
/-! the same data, at any depth: what is the same object, or flat, or a list or tuple of such -/
def SqEq (K : PySem.W.Frag) (H : Hp) (R : V → V → Prop) (x y : V) : Prop := ∃ (a b : Addr) (xs ys : List V), x = .ref a ∧ y = .ref b ∧ ((SqL K H a xs ∧ SqL K H b ys) ∨ (SqT K H a xs ∧ SqT K H b ys)) ∧ xs.length = ys.length ∧ ∀ (i : Nat) u v, xs[i]? = some u → ys[i]? = some v → R u v
def Eqg (K : PySem.W.Frag) (H : Hp) : Nat → V → V → Prop
  | 0, x, y => x = y ∧ One x
  | n + 1, x, y => (x = y ∧ One x) ∨ SqEq K H (Eqg K H n) x y
theorem Eqg.self {K : PySem.W.Frag} {H : Hp} {n : Nat} {x : V} (h : One x) : Eqg K H n x x := by
  cases n with
  | zero => exact ⟨rfl, h⟩
  | succ n => exact .inl ⟨rfl, h⟩
theorem SqEq.mono {K : PySem.W.Frag} {H : Hp} {R S : V → V → Prop} (k : ∀ u v, R u v → S u v) {x y : V} (h : SqEq K H R x y) : SqEq K H S x y := by
  obtain ⟨a, b, xs, ys, e1, e2, h, l, f⟩ := h
  exact ⟨a, b, xs, ys, e1, e2, h, l, fun i u v hu hv => k _ _ (f i u v hu hv)⟩
theorem Eqg.up {K : PySem.W.Frag} {H : Hp} : ∀ {n : Nat} {x y : V}, Eqg K H n x y → Eqg K H (n + 1) x y
  | 0, _, _, h => .inl h
  | n + 1, _, _, .inl h => .inl h
  | n + 1, _, _, .inr h => .inr (h.mono fun _ _ z => z.up)
theorem Eqg.le {K : PySem.W.Frag} {H : Hp} {n m : Nat} (l : n ≤ m) {x y : V} (h : Eqg K H n x y) : Eqg K H m x y := by
  induction l with
  | refl => exact h
  | step _ ih => exact ih.up
theorem vals_two : ∀ {xs ys : List V} {its its2 : List Value}, Vals xs its → Vals ys its2 → ∀ (j : Nat) (h1 : j < its.length) (h2 : j < its2.length), ∃ u v, xs[j]? = some u ∧ ys[j]? = some v ∧ RelV u its[j] ∧ RelV v its2[j]
  | [], _, _, _, .nil, _, j, h1, _ => absurd h1 (Nat.not_lt_zero _)
  | _, [], _, _, _, .nil, j, _, h2 => absurd h2 (Nat.not_lt_zero _)
  | x :: xs, y :: ys, _, _, .cons a b, .cons c d, 0, _, _ => ⟨x, y, rfl, rfl, a, c⟩
  | x :: xs, y :: ys, _, _, .cons a b, .cons c d, j + 1, h1, h2 => by
    obtain ⟨u, v, e1, e2, p, q⟩ := vals_two b d j (by simpa using h1) (by simpa using h2)
    exact ⟨u, v, by simpa using e1, by simpa using e2, by simpa using p, by simpa using q⟩
theorem all_true (n : Nat) : ((List.range n).all fun _ => true) = true := by simp
section
variable {X : Cx} {pins : List (Addr × Obj)} {σ : L2.St} {H : Hp} {s : Shared}
theorem rc_g (I : Inv X pins σ H s) {R : V → V → Prop} {A : Around} (hu : A.units < cLine) (hR : ∀ x y v u, R x y → RelV x v → RelV y u → SeqAt.EqAt A.in1 s v u true) {x y : V} {v u : Value} (h : SqEq X.K H R x y) (rx : RelV x v) (ry : RelV y u) : SeqAt.RcAt A s v u true ∧ SeqAt.RcNeAt A s v u false := by
  obtain ⟨a, b, xs, ys, rfl, rfl, hs, hl, hk⟩ := h
  cases (show v = Value.ref a from rx)
  cases (show u = Value.ref b from ry)
  rcases hs with ⟨ha, hb⟩ | ⟨ha, hb⟩
  · obtain ⟨its, rv, l1, _⟩ := I.list ha
    obtain ⟨its2, rv2, l2, _⟩ := I.list hb
    have l1' : s.heap.IsList a its.toArray := by obtain ⟨o, n, ho, hc, _, hd⟩ := l1; exact ⟨o, ho, hc, n, hd⟩
    have l2' : s.heap.IsList b its2.toArray := by obtain ⟨o, n, ho, hc, _, hd⟩ := l2; exact ⟨o, ho, hc, n, hd⟩
    have le : its.toArray.size = its2.toArray.size := by
      show its.length = its2.length
      rw [← vals_len rv, ← vals_len rv2, hl]
    have he : ∀ j (h1 : j < its.toArray.size) (h2 : j < its2.toArray.size), SeqAt.EqAt A.in1 s its.toArray[j] its2.toArray[j] ((fun _ => true) j) := fun j h1 h2 => by
      obtain ⟨p, q, e1, e2, r1, r2⟩ := vals_two rv rv2 j h1 h2
      exact hR p q _ _ (hk j p q e1 e2) (by simpa using r1) (by simpa using r2)
    have k1 := SeqAt.RcAt.lists l1' l2' le hu he
    have k2 := SeqAt.RcNeAt.lists l1' l2' le hu he
    rw [all_true] at k1 k2
    exact ⟨k1, k2⟩
  · obtain ⟨its, rv, l1, _⟩ := I.tuple ha
    obtain ⟨its2, rv2, l2, _⟩ := I.tuple hb
    have le : its.toArray.size = its2.toArray.size := by
      show its.length = its2.length
      rw [← vals_len rv, ← vals_len rv2, hl]
    have he : ∀ j (h1 : j < its.toArray.size) (h2 : j < its2.toArray.size), SeqAt.EqAt A.in1 s its.toArray[j] its2.toArray[j] ((fun _ => true) j) := fun j h1 h2 => by
      obtain ⟨p, q, e1, e2, r1, r2⟩ := vals_two rv rv2 j h1 h2
      exact hR p q _ _ (hk j p q e1 e2) (by simpa using r1) (by simpa using r2)
    have k1 := SeqAt.RcAt.tuples l1 l2 hu he
    have k2 := SeqAt.RcNeAt.tuples l1 l2 hu he
    rw [all_true, le, beq_self_eq_true] at k1 k2
    exact ⟨k1, k2⟩
theorem eq_g (I : Inv X pins σ H s) : ∀ (n : Nat) (A : Around) (x y : V) (v u : Value), A.units + n < cLine → Eqg X.K H n x y → RelV x v → RelV y u → SeqAt.EqAt A s v u true
  | 0, A, x, y, v, u, _, h, rx, ry => by
    obtain ⟨rfl, o⟩ := h
    exact eq_one rx ry o
  | n + 1, A, x, y, v, u, hu, h, rx, ry => by
    rcases h with ⟨rfl, o⟩ | h
    · exact eq_one rx ry o
    have hu' : A.units < cLine := by omega
    have k := rc_g I hu' (fun x y v u hR rx ry => eq_g I n A.in1 x y v u (by show A.units + 1 + n < cLine; omega) hR rx ry) h rx ry
    obtain ⟨a, b, xs, ys, rfl, rfl, _⟩ := h
    cases (show v = Value.ref a from rx)
    cases (show u = Value.ref b from ry)
    by_cases e : a = b
    · subst e
      exact SeqAt.EqAt.same _
    · exact SeqAt.EqAt.of_refs e k.1
end
section
variable {X : Cx}
def rEqG (K : PySem.W.Frag) : R2 := fun x y H Q => SqEq K H (Eqg K H 60) x y ∧ Q (.bl true) H
def rNeG (K : PySem.W.Frag) : R2 := fun x y H Q => SqEq K H (Eqg K H 60) x y ∧ Q (.bl false) H
theorem op_eqG (hu : X.A.units + 64 < cLine) : OpR X (compareOp .Eq) (rEqG X.K) := by
  intro pins s σ H x y v u Q I rx ry h
  exact (rc_g I (A := X.A) (by omega) (fun x y v u hR rx ry => eq_g I 60 X.A.in1 x y v u (by show X.A.units + 1 + 60 < cLine; omega) hR rx ry) h.1 rx ry).1 X.prog X.w _ _ ⟨.bl _, H, I, rfl, h.2⟩
theorem op_neG (hu : X.A.units + 64 < cLine) : OpR X (compareOp .NotEq) (rNeG X.K) := by
  intro pins s σ H x y v u Q I rx ry h
  exact (rc_g I (A := X.A) (by omega) (fun x y v u hR rx ry => eq_g I 60 X.A.in1 x y v u (by show X.A.units + 1 + 60 < cLine; omega) hR rx ry) h.1 rx ry).2 X.prog X.w _ _ ⟨.bl _, H, I, rfl, h.2⟩
end
end SmE

namespace EnT
open PySem PySem.Spec PyProof.Rows L2
/-- a fresh enumerate over the iterator at j -/
abbrev enO (j : Addr) : Obj := { cls := .type "enumerate", data := .fields #[.none, .bool false, .ref j, rawInt 0, .none, .none] }
theorem en_new {v : Value} {oi : Obj} {Hh : Heap → Prop} (B : Begins v oi Hh) :
    Meets (Builtin.«enumerate.__new__» ⟨[.type "enumerate", v], []⟩) (fun _ R s => Hh s.heap ∧ R (.ok (.ret (.ref (s.heap.push oi).objs.size))) { s with heap := (s.heap.push oi).push (enO s.heap.objs.size) }) :=
  .of_wp fun prog w A R s hyp => by
    obtain ⟨mem, gg, dd, tt, sys⟩ := s
    obtain ⟨okv, fin⟩ := hyp
    have hsub := sub_enumerate
    have step : ∀ {A2 : Around} {E2 : Value → Shared → Prop} {Q2 : Value → Shared → Prop}, Q2 (.ref mem.objs.size) ⟨mem.push oi, gg, dd, tt, sys⟩ → wpAny (model prog w) A2 (pyIter v) Q2 E2 ⟨mem, gg, dd, tt, sys⟩ :=
      fun z => B.iter prog w _ _ ⟨mem, gg, dd, tt, sys⟩ _ okv z
    wp_walk using step
    refine wpAny_stack_any fun _ => wpAny_pure ?_
    split
    · rename_i cc _ _ _ _ _
      cases (cc == Value.type "enumerate") <;> (wp_walk using step; exact ⟨_, rfl, fin⟩)
    · (wp_walk using step); exact ⟨_, rfl, fin⟩
theorem en_call {prog : Program} {w : World} {A : Around} {E : Value → Shared → Prop} {s : Shared} {v : Value} {oi : Obj} {Hh : Heap → Prop} {Q : Value → Shared → Prop} (B : Begins v oi Hh) (okv : Hh s.heap)
    (fin : ∀ h2, IsEnum h2 (s.heap.objs.size + 1) s.heap.objs.size 0 .none → h2.get? s.heap.objs.size = some oi → (∀ b o, s.heap.get? b = some o → h2.get? b = some o) → Q (.ref (s.heap.objs.size + 1)) { s with heap := h2 }) :
    wpAny (model prog w) A (call (.type "enumerate") [v]) Q E s := by
  refine callType_new F.called_enumerate (by decide) (F.typeCall_enumerate_1 v) (F.newCall_enumerate_1 v) (fun ob => F.args_object_init_2 ob v) F.entry_enumerate_new (en_new B) ⟨okv, ?_⟩
  have sz1 : (s.heap.push oi).objs.size = s.heap.objs.size + 1 := Heap.size_push ..
  have isE : IsEnum ((s.heap.push oi).push (enO s.heap.objs.size)) (s.heap.objs.size + 1) s.heap.objs.size 0 .none := by
    have g := Heap.get?_push_size (s.heap.push oi) (o := enO s.heap.objs.size) rfl
    rw [sz1] at g
    exact g
  show _ ∧ _
  rw [sz1]
  exact ⟨⟨_, isE, rfl⟩, fin _ isE (Heap.get?_push_of_some _ (Heap.get?_push_size _ B.free)) fun b o z => Heap.get?_push_of_some _ (Heap.get?_push_of_some _ z)⟩
/-- the tuple at t, each item in a new pair -/
def Iet (K : PySem.W.Frag) (t : Addr) : It :=
  ⟨fun i H => ∃ (xs : List V) (x : V), SqT K H t xs ∧ xs[i]? = some x, fun i H v H' => ∃ pr x, v = .ref pr ∧ H pr = none ∧ H' = upd H pr (.tup [.int (i : Nat), x]) ∧ ∀ xs, SqT K H t xs → xs[i]? = some x, fun i H => ∃ xs : List V, SqT K H t xs ∧ xs.length ≤ i⟩
theorem ne_it {h : Heap} {t it : Addr} {i : Nat} {its : Array Value} (a : h.IsTuple t its) (b : h.IsTupleIter it t i) : t ≠ it := fun z => by
  obtain ⟨o1, e1, c1, _⟩ := a
  obtain ⟨o2, e2, c2, _⟩ := b
  rw [z, e2] at e1
  cases e1
  rw [c1] at c2
  exact absurd (Value.type.inj c2) (by decide)
theorem turn_enT {P : Program} {w : World} {K : PySem.W.Frag} {elts : List Expr} {kk : Nat} {tpos : Pos} (t e it : Addr) :
    Turn P w K (.Tuple elts kk tpos) (Iet K t) [e, it] e (fun i h => (∃ old, IsEnum h e it ((i : Nat) : Int) old) ∧ h.IsTupleIter it t i ∧ e ≠ it ∧ e ≠ t) where
  mem := List.mem_cons_self
  obj := fun i h tn b hb => by
    obtain ⟨⟨_, he⟩, ⟨o, ho, _, hd⟩, _⟩ := tn
    rcases List.mem_cons.mp hb with z | z
    · rw [z]; exact ⟨_, he, fun v y => nomatch y⟩
    · rw [List.mem_singleton.mp z]; exact ⟨o, ho, fun v y => by rw [hd] at y; cases y⟩
  keep := fun i h h' tn kp => by
    obtain ⟨⟨old, he⟩, hi, n1, n2⟩ := tn
    exact ⟨⟨old, kp e (by simp) _ he⟩, hi.at fun o z => kp it (by simp) o z, n1, n2⟩
  item := by
    intro X hP hw hK hc i pins s σ H E I hf tn hg
    subst hP hw hK
    obtain ⟨⟨old, he⟩, hit, n1, n2⟩ := tn
    obtain ⟨xs, x, hq, hx⟩ := hg
    obtain ⟨its, rv, tp, _⟩ := I.tuple hq
    obtain ⟨u, hu, ru⟩ := rv.get hx
    have tp' : s.heap.IsTuple t its.toArray := tp
    have le : e < s.heap.objs.size := Heap.lt_size he
    have li : it < s.heap.objs.size := by obtain ⟨_, y, _⟩ := hit; exact Heap.lt_size y
    have hi : i < its.toArray.size := by
      have := (List.getElem?_eq_some_iff.mp hu).1
      simpa using this
    have hd : X.A.in1.handled = none := I.ok.hd hc
    refine wpAny_pyNext_enum_itemD (Draws.tuple hd it t (ne_it tp' hit) its.toArray) he ⟨hit, tp'⟩ hi n1 (fun z => ?_) fun y h2 tk hy ho hst hT hsz kp => ?_
    · rcases List.mem_cons.mp z with z | z
      · exact n1 z
      · exact n2 (List.mem_singleton.mp z)
    have ey : y = u := by
      have : its.toArray[i]? = some y := hy
      rw [List.getElem?_toArray, hu] at this
      exact (Option.some.inj this).symm
    subst ey
    refine ⟨_, rfl, wpAny_letOwnedTupleGo_enum (s := { s with heap := h2, toks := tk + 1 }) ho fun h3 he3 sb => ?_⟩
    have hT3 : h3.get? s.heap.objs.size = some { cls := .type "tuple", data := .seq #[.int i tk, y] } := (sb.2 _ (Nat.ne_of_gt le)).trans hT
    have made : ObjOk X.prog X.w (upd H s.heap.objs.size (.tup [.int (i : Nat), x])) h3 s.heap.objs.size (.tup [.int (i : Nat), x]) := ⟨by show 2 ≤ sizeLine; decide, [.int i tk, y], .cons ⟨_, rfl⟩ (.cons ru .nil), ⟨_, hT3, rfl, _, rfl⟩⟩
    have I3 : Inv X pins σ (upd H s.heap.objs.size (.tup [.int (i : Nat), x])) { s with heap := h3, toks := tk + 1 } :=
      I.turnedNew (ch := [e, it]) (fun b ob nb z => (sb.2 b (fun y => nb (by simp [y]))).trans (kp b ob (fun y => nb (by simp [y])) (fun y => nb (by simp [y])) z)) hf (Nat.le_refl _) made
    refine ⟨.ref s.heap.objs.size, _, I3, rfl, ⟨_, x, rfl, I.hok.fresh (Nat.le_refl _), rfl, fun ys hys => by rw [I.tuple_inj hys hq]; exact hx⟩, ⟨⟨y, ?_⟩, hst.1.at fun o z => (sb.2 it (Ne.symm n1)).trans z, n1, n2⟩, fun b hb => ?_⟩
    · rw [show ((i + 1 : Nat) : Int) = (i : Int) + 1 by omega]; exact he3
    · have lb : b < s.heap.objs.size := by
        rcases List.mem_cons.mp hb with z | z
        · rw [z]; exact le
        · rw [List.mem_singleton.mp z]; exact li
      rw [upd_ne (Nat.ne_of_lt lb)]
      exact (hf b hb).1
  done := by
    intro X hP hw hK hc i pins s σ H E I hf tn hg
    subst hP hw hK
    obtain ⟨⟨old, he⟩, hit, n1, n2⟩ := tn
    obtain ⟨xs, hq, hx⟩ := hg
    obtain ⟨its, rv, tp, _⟩ := I.tuple hq
    have tp' : s.heap.IsTuple t its.toArray := tp
    obtain ⟨f0, f1, f2, f3, f4, f5⟩ := hf it (by simp)
    have hl := rv.length
    have hd : X.A.in1.handled = none := I.ok.hd hc
    have dr := Draws.tuple (prog := X.prog) (w := X.w) hd it t (ne_it tp' hit) its.toArray
    have D2 : Draws X.prog X.w X.A.in1 it [it, t] i (fun _ _ => False) (fun j h => j = i ∧ h.IsTupleIter it t i ∧ h.IsTuple t its.toArray) :=
      { live := fun _ _ st => let ⟨o, ho, _⟩ := st.2.1; ⟨o, ho⟩
        frame := fun _ _ _ st hk => ⟨st.1, st.2.1.at fun o z => hk it (by simp) o z, st.2.2.at fun o z => hk t (by simp) o z⟩
        item := fun j s Q E hj st hQ => absurd st.1 (Nat.ne_of_lt hj)
        done := fun s Q E st hE => wpAny_nextOf_tuple_end hd st.2.1 st.2.2 (by simp; omega) hE }
    exact wpAny_pyNext_enum_endD D2 he ⟨rfl, hit, tp'⟩ fun h' eb => ⟨rfl, I.turned (t' := s.toks) (fun b o nb z => eb b o nb z) f0 f1 f3 f4 f5⟩
  self := fun A i s Q E tn z => let ⟨⟨_, he⟩, _⟩ := tn; wpAny_pyIter_enum he z
def iEnT (K : PySem.W.Frag) (ta : TA) : TI := fun σ H R => ta σ H fun vs H1 => ∃ t xs, vs = [.ref t] ∧ SqT K H1 t xs ∧ R (Iet K t) H1
theorem pi_enumT {X : Cx} {e : Expr} {ta : TA} {p pos tpos : Pos} {elts : List Expr} {kk : Nat} (hg : Gl X "enumerate") (hm : X.mg "enumerate" = none) (ha : PA X [e] ta) (hs : starEach [e] X.env = [(false, eval e X.env)] := by rfl) :
    PI X (.Tuple elts kk tpos) (.Call (.Name "enumerate" p) [e] [] pos) (iEnT X.K ta) := by
  refine ⟨fun pins s σ H R I h => ?_⟩
  refine Call_ (ld_blt I hg hm boot_enumerate (PyProof.Rows.callWith_type1 (thn (ha.run pos pins s σ H _ I h) fun us s1 ⟨vs, H1, I1, r1, q1⟩ => ?_) hs rfl))
  obtain ⟨t, xs, ev, hq, fin⟩ := q1
  subst ev
  cases r1 with
  | cons r rr =>
    cases rr
    cases r
    obtain ⟨its, rv, tp, _⟩ := I1.tuple hq
    have tp' : s1.heap.IsTuple t its.toArray := tp
    obtain ⟨ot, hot, _⟩ := id tp'
    refine en_call (begins_tuple t its.toArray) tp' fun h2 isE hit kp => wpAny_pyIter_enum isE ?_
    refine ⟨s1.heap.objs.size + 1, [s1.heap.objs.size + 1, s1.heap.objs.size], _, _, H1, rfl, I1.kept (t' := s1.toks) kp, turn_enT t (s1.heap.objs.size + 1) s1.heap.objs.size, ⟨⟨.none, isE⟩, ⟨_, hit, rfl, rfl⟩, Nat.succ_ne_self _, fun z => ?_⟩, fun b hb => ?_, fin⟩
    · have lt := Heap.lt_size hot
      rw [← z] at lt
      exact absurd lt (Nat.not_lt.mpr (Nat.le_succ _))
    · have lb : s1.heap.objs.size ≤ b := by
        rcases List.mem_cons.mp hb with z | z
        · rw [z]; exact Nat.le_add_right _ _
        · rw [List.mem_singleton.mp z]; exact Nat.le_refl _
      exact I1.fpOk lb (I1.hok.fresh lb)
theorem pi_or {X : Cx} {tg it : Expr} {w1 w2 : TI} (a : PI X tg it w1) (b : PI X tg it w2) : PI X tg it (fun σ H R => w1 σ H R ∨ w2 σ H R) := ⟨fun pins s σ H R I h => h.elim (a.run pins s σ H R I) (b.run pins s σ H R I)⟩
end EnT

namespace StT
open PySem PySem.Spec PyProof.Rows L2
/-- what is known of a set built of the first i texts -/
def Known (xs : List Str) (i : Nat) (S : Str → Bool) (m : Nat) : Prop := (∀ k, S k = (xs.take i).any (· == k)) ∧ m ≤ i ∧ (m = i → (xs.take i).Nodup)
theorem Known.more {xs : List Str} {i m : Nat} {S : Str → Bool} {x : Str} (h : Known xs i S m) (hx : xs[i]? = some x) : Known xs (i + 1) (fun k => S k || decide (k = x)) (if S x then m else m + 1) := by
  obtain ⟨h1, h2, h3⟩ := h
  have tk : xs.take (i + 1) = xs.take i ++ [x] := by rw [List.take_add_one, hx]; rfl
  refine ⟨fun k => ?_, ?_, fun e => ?_⟩
  · rw [tk, List.any_append, ← h1 k]
    congr 1
    by_cases q : k = x
    · subst q; simp
    · have : (x == k) = false := by simpa [beq_iff_eq] using fun z : x = k => q z.symm
      simp [q, this]
  · split <;> omega
  · cases q : S x with
    | true => rw [q] at e; simp at e; omega
    | false =>
      rw [q] at e
      have em : m = i := by simpa using e
      rw [tk, List.nodup_append]
      refine ⟨h3 em, by simp, fun u hu v hv => ?_⟩
      rw [List.mem_singleton.mp hv]
      intro z
      subst z
      have := h1 u
      rw [q] at this
      have hany : (xs.take i).any (· == u) = true := List.any_eq_true.mpr ⟨u, hu, by simp⟩
      rw [hany] at this
      cases this
section
variable {prog : Program} {w : World} {A : Around} {R : Result → Shared → Prop} {I : Addr} {fp wr : List Addr} {G : Array GenState → Array GenState → Prop} {n : Nat} {P : Nat → Value → Prop} {St : Nat → Shared → Prop}
theorem fill (W : WalksS prog w A.in1 I fp wr G n P St) (S : Addr) (nS : S ∉ fp) (xs : List Str) (hn : xs.length = n) (small : n ≤ 1000) (hv : ∀ i v, P i v → ∃ t, v = .str (xs.getD i Str.empty) t) :
    ∀ (k i : Nat) (s : Shared) (F : Str → Bool) (m : Nat), n - i = k → i ≤ n → St i s → s.heap.SetOf (PySem.strKind prog w) S F m → Known xs i F m →
      (∀ s' F' m', Moved (S :: wr) G s s' → s'.heap.SetOf (PySem.strKind prog w) S F' m' → Known xs n F' m' → R (.ok (.ret .none)) s') → codeAny (model prog w) A (.builtin "set.update.loop" ⟨[.ref S, .ref I], []⟩) R s := by
  have nW : S ∉ wr := fun z => nS (W.sub _ z)
  have up : ∀ b ∈ wr, b ∈ S :: wr := fun b z => List.mem_cons_of_mem _ z
  intro k
  induction k with
  | zero =>
    intro i s F m hk hi hst hS hK fin
    obtain rfl : i = n := by omega
    refine codeAny_builtin PyProof.Rows.F.entry_set_update_loop ?_
    rw [Around.under_plainId PyProof.Rows.F.plain_set_update_loop _]
    refine wpAny_bind (W.done s _ _ hst fun s1 mv => wpAny_pure (fin s1 F m (mv.mono up) ?_ hK))
    obtain ⟨o, es, ep, tb, ho, more⟩ := hS; exact ⟨o, es, ep, tb, mv.heap S _ nW ho, more⟩
  | succ k ih =>
    intro i s F m hk hi hst hS hK fin
    have lt : i < n := by omega
    refine codeAny_builtin PyProof.Rows.F.entry_set_update_loop ?_
    rw [Around.under_plainId PyProof.Rows.F.plain_set_update_loop _]
    refine wpAny_bind (W.item i s _ _ lt hst fun v s1 hP st1 mv => ?_)
    obtain ⟨tt, rfl⟩ := hv i v hP
    have S1 : s1.heap.SetOf (PySem.strKind prog w) S F m := by obtain ⟨o, es, ep, tb, ho, more⟩ := hS; exact ⟨o, es, ep, tb, mv.heap S _ nW ho, more⟩
    have mi := hK.2.1
    refine wpAny_bind (wpAny_holding ?_)
    unfold setAdd
    refine wpAny_holding (wpAny_bind ((PySem.strKind prog w).pyHash (k := xs.getD i Str.empty) (strKind_is _ _ _ _) ?_))
    refine wpAny_setAddHashed_of (knd := PySem.strKind prog w) (s := { s1 with toks := s1.toks + 1 }) (strKind_is _ _ _ _) rfl S1 (by unfold scanBound; omega) fun h2 sb S2 => ?_
    have hx : xs[i]? = some (xs.getD i Str.empty) := by
      have l : i < xs.length := by omega
      rw [List.getElem?_eq_getElem l, List.getD_eq_getElem?_getD, List.getElem?_eq_getElem l]; rfl
    have away : ∀ b ∈ fp, b ≠ S := fun b hb z => nS (by rw [← z]; exact hb)
    refine wpAny_pure ⟨plainId_quiet PyProof.Rows.F.plain_set_update_loop _, ih (i + 1) _ _ _ (by omega) lt (W.frame _ s1 _ _ st1 (Nat.le_succ _) fun b hb o z => (sb.2 b (away b hb)).trans z) S2 (hK.more hx) fun s3 F3 m3 mv3 S3 K3 => ?_⟩
    exact fin s3 F3 m3 (Moved.trans W.gtrans ((mv.mono up).then_heap (Nat.le_succ _) fun b o hb z => (sb.2 b (fun y : b = S => hb (by rw [y]; exact List.mem_cons_self))).trans z) mv3) S3 K3
end
section
variable {prog : Program} {w : World} {A : Around} {E : Value → Shared → Prop} {s : Shared}
abbrev set0 (led : Bool) : Obj := { cls := .type "set", dict := none, data := .set #[] 0 (.fresh 0 0 led) }
set_option maxHeartbeats 3200000 in
theorem set_texts {l : Addr} {items : Array Value} {xs : List Str} {Q : Value → Shared → Prop} (hh : A.handled = none) (hl : s.heap.IsList l items) (hi : PyProof.Rows.StrsAre items.toList xs) (small : xs.length ≤ 1000)
    (fin : ∀ (h2 : Heap) (tk : Nat) (F : Str → Bool) (m : Nat), h2.SetOf (PySem.strKind prog w) s.heap.objs.size F m → Known xs xs.length F m → (∀ b o, b < s.heap.objs.size → s.heap.get? b = some o → h2.get? b = some o) → Q (.ref s.heap.objs.size) { s with heap := h2, toks := tk }) :
    wpAny (model prog w) A (call (.type "set") [.ref l]) Q E s := by
  obtain ⟨c, tl, hmro⟩ := PySem.F.called_set.mro
  have hmade := PySem.F.called_set.made; have hsub := PySem.F.called_set.sub
  refine wpAny_call (codeAny_of_tree ?_)
  show wpAny _ _ (callAny (.type "set") _) _ _ _
  refine wpAny_pure ⟨Code.quiet_builtin _ (by decide +kernel), codeAny_builtin PySem.F.entry_type_call ?_⟩
  rw [Around.under_plain (weight_type_call_type "set" [.ref l] []) rfl]
  have e1 := PySem.F.called_set.notType; have e2 := PySem.F.called_set.canCreate; have e3 := PySem.F.typeCall_set_1 (.ref l)
  repeat (any_goals (first | assumption | wp_step))
  refine codeAny_mono (code_set_new_1 (.ref l) (E := E) (Q₁ := fun ob s1 => ∃ led : Bool, ob = .ref s.heap.objs.size ∧ s1 = { s with heap := s.heap.push (set0 led) }) fun led => ⟨led, rfl, rfl⟩) fun r s1 hr => ?_
  cases r with
  | error e => exact hr
  | ok fl =>
    cases fl with
    | ret ob =>
      obtain ⟨led, rfl, rfl⟩ := hr
      have at0 : (s.heap.push (set0 led)).get? s.heap.objs.size = some (set0 led) := Heap.get?_push_size _ rfl
      have ty : Shared.TypeIs { s with heap := s.heap.push (set0 led) } (.ref s.heap.objs.size) "set" := ⟨_, at0, rfl⟩
      have i1 := PySem.F.called_set.init.lookup; have i2 := PySem.F.called_set.init.bind (.ref s.heap.objs.size)
      repeat (any_goals (first | assumption | wp_step))
      refine codeAny_mono (codeAny_call_builtin (R := wants (fun r s2 => r = .none ∧ ∃ h2 tk F m, s2 = { s with heap := h2, toks := tk } ∧ h2.SetOf (PySem.strKind prog w) s.heap.objs.size F m ∧ Known xs xs.length F m ∧
          (∀ b o, b < s.heap.objs.size → s.heap.get? b = some o → h2.get? b = some o)) E) PySem.F.called_set.init.plain PySem.F.entry_set_init (check_set_init_1 ty ?_)) fun r2 s2 hr2 => ?_
      · obtain ⟨⟨oc, odc, odt, osl⟩, hol, hcl, nl, hdl⟩ := hl
        simp only at hcl hdl
        subst hcl hdl
        have hol1 : (s.heap.push (set0 led)).get? l = some { cls := .type "list", dict := odc, data := .seq items nl, slots := osl } := Heap.get?_push_of_some _ hol
        have z1 := PySem.F.sub_list_set; have z2 := PySem.F.sub_list_frozenset
        have z3 : (Value.type "list" == Value.type "dict") = false := by decide
        have hl1 : (s.heap.push (set0 led)).IsList l items := ⟨_, hol1, rfl, nl, rfl⟩
        unfold Builtin.«set.__init__» noKeywords Builtin.Frozenset.updateFrom
        generalize hPI : pyIter = PI; wp_walk; subst hPI
        refine wpAny_pyIter_list hl1 (wpAny_bind (wpAny_runValue ?_))
        have lS : l < s.heap.objs.size := Heap.lt_size hol
        have hh3 : A.in1.in1.in1.handled = none := by simp [hh]
        have szp : (s.heap.push (set0 led)).objs.size = s.heap.objs.size + 1 := Heap.size_push ..
        have nI : l ≠ (s.heap.push (set0 led)).objs.size := by rw [szp]; exact Nat.ne_of_lt (Nat.lt_succ_of_lt lS)
        have nS : s.heap.objs.size ∉ [(s.heap.push (set0 led)).objs.size, l] := by
          rw [szp]; intro z
          rcases List.mem_cons.mp z with z | z
          · exact absurd z (Nat.ne_of_lt (Nat.lt_succ_self _))
          · exact absurd (List.mem_singleton.mp z) (Nat.ne_of_gt lS)
        have len : xs.length = items.size := by rw [← StrsAre.len_eq hi, Array.length_toList]
        have val : ∀ (i : Nat) (v : Value), items[i]? = some v → ∃ t, v = .str (xs.getD i Str.empty) t := fun i v z => SS.strs_at hi i v (by rw [Array.getElem?_toList]; exact z)
        refine fill ((Walks.list hh3 _ l nI items).toS) s.heap.objs.size nS xs len (by rw [← len]; exact small) val (items.size - 0) 0 _ (fun _ => false) 0 (by omega) (Nat.zero_le _) ⟨⟨_, Heap.get?_push_size _ rfl, rfl, rfl⟩, (hl1.push _)⟩ ?_ ⟨fun _ => rfl, Nat.le_refl _, fun _ => List.nodup_nil⟩ ?_
        · exact (PyProof.Rows.setObjOf_fresh (knd := PySem.strKind prog w) led).setOf (Heap.get?_push_of_some _ at0) (by unfold scanBound; omega)
        · intro s3 F3 m3 mv S3 K3
          obtain ⟨h3, g3, d3, t3, o3⟩ := s3
          obtain rfl : g3 = s.gens := mv.gens
          obtain rfl : d3 = s.drawn := mv.drawn
          obtain rfl : o3 = s.os := mv.os
          refine wpAny_pure (wpAny_pure ⟨rfl, h3, t3, F3, m3, rfl, S3, by rw [len]; exact K3, fun b o hb z => ?_⟩)
          refine mv.heap b o (fun y => ?_) (Heap.get?_push_of_some _ (Heap.get?_push_of_some _ z))
          rcases List.mem_cons.mp y with y | y
          · exact absurd y (Nat.ne_of_lt hb)
          · have y' := List.mem_singleton.mp y
            rw [szp] at y'
            exact absurd y' (Nat.ne_of_lt (Nat.lt_succ_of_lt hb))
      · cases r2 with
        | error e => exact hr2
        | ok fl2 =>
          cases fl2 with
          | ret r =>
            obtain ⟨rfl, h2, tk, F, m, rfl, S2, K2, kp⟩ := hr2
            repeat (any_goals (first | assumption | wp_step))
            exact fin _ _ _ _ S2 K2 kp
          | _ => exact hr2.elim
    | _ => exact hr.elim
end
/-- len(set(xs)) of a list of texts -/
def tLenSetT (K : PySem.W.Frag) (ta : TE) : TE := fun σ H Q => ta σ H fun x H1 => ∃ l, ∃ xs : List Str, x = .ref l ∧ SqL K H1 l (xs.map V.str) ∧ xs.length ≤ 1000 ∧ ∀ m : Nat, m ≤ xs.length → (m = xs.length → xs.Nodup) → Q (.int m) H1
theorem pe_lenSetT {X : Cx} {e : Expr} {ta : TE} {p p2 q pos : Pos} (hc : X.calm = true) (hg : Gl X "len") (hm : X.mg "len" = none) (hg2 : Gl X "set") (hm2 : X.mg "set" = none) (ha : PE X e ta)
    (na : starEach [e] X.env = (false, eval e X.env) :: starEach [] X.env := by rfl) : PE X (.Call (.Name "len" p) [.Call (.Name "set" p2) [e] [] q] [] pos) (tLenSetT X.K ta) := by
  refine ⟨fun pins s σ H Q I h => ?_⟩
  refine Call_ (ld_blt I hg hm boot_len (PyProof.Rows.callWith_builtin1 (PyProof.Rows.args_cons ?_ rfl) rfl rfl))
  refine Call_ (ld_blt I hg2 hm2 boot_set ?_)
  refine PyProof.Rows.callWith_type1 (PyProof.Rows.args_cons (thn (ha.run pins s σ H _ I h) fun v s1 ⟨x, H1, I1, r1, q1⟩ => PyProof.Rows.args_nil ?_) na) na rfl
  obtain ⟨l, xs, rfl, hq, small, q1⟩ := q1
  cases r1
  obtain ⟨its, rv, pl, hz⟩ := I1.list hq
  refine set_texts (I1.ok.hd hc) pl.isList (by simpa using strsAre_of rv) small fun h2 tk F m S2 K2 kp => PyProof.Rows.args_nil ?_
  obtain ⟨o, es, ep, t, ho, hex, hd, _, _, _, hf, hn⟩ := S2
  have I2 : Inv X pins σ H1 { s1 with heap := h2, toks := tk } := I1.kept fun b o z => kp b o (Heap.lt_size z) z
  have k1 := K2.2.1
  refine call_len_set ho hex hd hf (by rw [hn]; omega) ⟨.int m, H1, I2.tok _, ⟨_, by rw [hn]⟩, q1 m k1 fun z => ?_⟩
  have := K2.2.2 z
  rwa [List.take_length] at this
end StT

namespace MxD
open PySem PySem.Spec PyProof.Rows L2
/-! max(xs, default=d) of a list of ints -/
theorem name_loop : (toString "max" ++ toString ".loop" : String) = "max.loop" := by decide
abbrev best0 (vs : Array Value) (c : Nat) : Obj := { cls := .type "list", dict := none, data := .seq vs c, slots := #[] }
section
variable {prog : Program} {w : World} {A : Around} {R : Result → Shared → Prop} {I : Addr} {fp wr : List Addr} {n : Nat} {P : Nat → Value → Prop} {St : Nat → Heap → Prop}
theorem turns (Wk : Walks prog w A.in1 I fp wr n P St) (bt : Nat → Nat → Bool) (cmp : CmpOf prog w A.in1 .Gt P bt) (S : Addr) (nS : S ∉ fp) (kw : List (Str × Value)) :
    ∀ (k j : Nat) (s : Shared) (u : Value) (c : Nat), n - (j + 1) = k → j + 1 ≤ n → St (j + 1) s.heap → P (argBest bt j) u → s.heap.get? S = some (best0 #[u, u] c) →
      (∀ v h2 tk, P (argBest bt (n - 1)) v → (∀ b o, b ∉ wr → b ≠ S → s.heap.get? b = some o → h2.get? b = some o) → R (.ok (.ret v)) { s with heap := h2, toks := tk }) →
      codeAny (model prog w) A (.builtin "max.loop" ⟨[.ref I, .none, .ref S], kw⟩) R s := by
  have nW : S ∉ wr := fun z => nS (Wk.sub _ z)
  intro k
  induction k with
  | zero =>
    intro j s u c hk hj st hu hS fin
    have e : j + 1 = n := by omega
    refine codeAny_builtin F.entry_max_loop ?_; rw [Around.under_plainId F.plain_max_loop _]
    refine wpAny_bind (wpAny_seqItems hS rfl (wpAny_bind (wpAny_tryCatch (Wk.done s _ _ (e ▸ st) fun h2 tk kp => ?_))))
    have S2 := kp S _ nW hS
    refine wpAny_bind (wpAny_updateSeq S2 rfl (wpAny_bind (wpAny_letGo (wpAny_pure ?_))))
    exact fin u _ tk (by rw [← e]; exact hu) fun b o nb nbS z => (Heap.get?_update_other _ _ (Ne.symm nbS)).trans (kp b o nb z)
  | succ k ih =>
    intro j s u c hk hj st hu hS fin
    have lt : j + 1 < n := by omega
    refine codeAny_builtin F.entry_max_loop ?_; rw [Around.under_plainId F.plain_max_loop _]
    refine wpAny_bind (wpAny_seqItems hS rfl (wpAny_bind (wpAny_tryCatch (Wk.item (j + 1) s _ _ lt st fun v h2 tk hP st2 kp => ?_))))
    have S2 := kp S _ nW hS
    show wpAny _ A.in1 (tryCatch (holding [v, v] (richCompare .Gt v u >>= _)) _ >>= _) _ _ _
    refine wpAny_bind (wpAny_tryCatch (wpAny_holding (wpAny_bind (cmp (j + 1) (argBest bt j) v u _ _ _ hP hu ?_))))
    refine wpAny_bind (wpAny_holding (wpAny_truthy_bool (wpAny_bind (wpAny_letGo (wpAny_pure ?_)))))
    cases hb : bt (j + 1) (argBest bt j) with
    | true =>
      simp only [if_true]
      refine wpAny_bind (wpAny_updateSeq S2 rfl (wpAny_bind (wpAny_letGo ?_))); rw [name_loop]
      refine wpAny_pure ⟨plainId_quiet F.plain_max_loop _, ih (j + 1) _ v _ (by omega) lt (Wk.frame _ _ _ st2 fun b hbf o z => ?_) (by simp only [argBest, hb, if_true]; exact hP) (Heap.get?_update_self _ S2 rfl) fun v3 h3 t3 P3 kp3 => ?_⟩
      · exact (Heap.get?_update_other _ _ (fun y : S = b => nS (by rw [y]; exact hbf))).trans z
      · exact fin v3 h3 t3 P3 fun b o nb nbS z => kp3 b o nb nbS ((Heap.get?_update_other _ _ (Ne.symm nbS)).trans (kp b o nb z))
    | false =>
      simp only [Bool.false_eq_true, if_false]
      refine wpAny_bind (wpAny_letGo ?_); rw [name_loop]
      refine wpAny_pure ⟨plainId_quiet F.plain_max_loop _, ih (j + 1) _ u c (by omega) lt st2 (by simp only [argBest, hb, Bool.false_eq_true, if_false]; exact hu) S2 fun v3 h3 t3 P3 kp3 => ?_⟩
      exact fin v3 h3 t3 P3 fun b o nb nbS z => kp3 b o nb nbS (kp b o nb z)
theorem firstT (Wk : Walks prog w A.in1 I fp wr n P St) (bt : Nat → Nat → Bool) (cmp : CmpOf prog w A.in1 .Gt P bt) (S : Addr) (nS : S ∉ fp) (nm : Str) (d : Value) {s : Shared} {c : Nat} (st : St 0 s.heap) (hS : s.heap.get? S = some (best0 #[] c))
    (fin : ∀ v h2 tk, (n = 0 → v = d) → (0 < n → P (argBest bt (n - 1)) v) → (∀ b o, b ∉ wr → b ≠ S → s.heap.get? b = some o → h2.get? b = some o) → R (.ok (.ret v)) { s with heap := h2, toks := tk }) :
    codeAny (model prog w) A (.builtin "max.loop" ⟨[.ref I, .none, .ref S], [(nm, d)]⟩) R s := by
  have nW : S ∉ wr := fun z => nS (Wk.sub _ z)
  refine codeAny_builtin F.entry_max_loop ?_; rw [Around.under_plainId F.plain_max_loop _]
  refine wpAny_bind (wpAny_seqItems hS rfl (wpAny_bind (wpAny_tryCatch ?_)))
  by_cases hn : n = 0
  · refine Wk.done s _ _ (hn ▸ st) fun h2 tk kp => ?_
    refine wpAny_bind (wpAny_rule (wpAny_pure ?_))
    exact fin d h2 tk (fun _ => rfl) (fun z => absurd hn (by omega)) fun b o nb _ z => kp b o nb z
  · refine Wk.item 0 s _ _ (by omega) st fun v h2 tk hP st2 kp => ?_
    have S2 := kp S _ nW hS
    show wpAny _ A.in1 (updateSeq S (fun _ => #[v, v]) >>= _) _ _ _
    refine wpAny_bind ?_; refine wpAny_updateSeq S2 rfl ?_; rw [name_loop]
    refine wpAny_pure ⟨plainId_quiet F.plain_max_loop _, turns Wk bt cmp S nS _ _ 0 _ v _ rfl (by omega) (Wk.frame _ _ _ st2 fun b hbf o z => ?_) hP (Heap.get?_update_self _ S2 rfl) fun v3 h3 t3 P3 kp3 => ?_⟩
    · exact (Heap.get?_update_other _ _ (fun y : S = b => nS (by rw [y]; exact hbf))).trans z
    · exact fin v3 h3 t3 (fun z => absurd z hn) (fun _ => P3) fun b o nb nbS z => kp3 b o nb nbS ((Heap.get?_update_other _ _ (Ne.symm nbS)).trans (kp b o nb z))
end
section
variable {prog : Program} {w : World} {A : Around} {E : Value → Shared → Prop} {s : Shared}
theorem args_kw (a d : Value) : argsOk "max" ⟨[a], [("default", d)]⟩ := by unfold argsOk; kernel_rfl
theorem tree_kw {id : String} {b : Builtin} {args : List Value} {kw : List (Str × Value)} {Q : Value → Shared → Prop} (hk : builtinKind id = none) (hp : plainId id = true) (hb : entryFor table id = some b) (ha : argsOk id ⟨args, kw⟩)
    (hc : wpAny (model prog w) A.in1 (b ⟨args, kw⟩) (fun f s2 => match f with
      | .done g => (match (Except.ok g : Result) with | .ok (.ret v) => Q v s2 | .ok _ => False | .error e => E e s2)
      | .again c2 => c2.quiet = true ∧ codeAny (model prog w) A c2 (fun r s2 => match r with | .ok (.ret v) => Q v s2 | .ok _ => False | .error e => E e s2) s2) E s) : wpAny (model prog w) A (call (.builtin id) args kw) Q E s := by
  refine wpAny_call (codeAny_call_builtin hp hb ?_); simp only [checkBuiltinCall, hk]
  cases sg : Manifest.signature? id with
  | none => exact wpAny_pure hc
  | some q =>
    simp only [argsOk, sg] at ha
    have ok : Bind.checkArgs id q ⟨args, kw⟩ = pure () := ha
    show wpAny _ A.in1 (Bind.checkArgs id q ⟨args, kw⟩) _ _ s
    rw [ok]
    exact wpAny_pure hc
theorem max_dflt {l : Addr} {xs : Array (Int × Tok)} {d : Value} {Q : Value → Shared → Prop} (hh : A.handled = none) (hl : s.heap.IsList l (intItems xs))
    (fin : ∀ v h2 tk, (xs.size = 0 → v = d) → (0 < xs.size → (intItems xs)[argBest (fun i j => decide (numAt xs i > numAt xs j)) (xs.size - 1)]? = some v) → (∀ b o, s.heap.get? b = some o → h2.get? b = some o) → Q v { s with heap := h2, toks := tk }) :
    wpAny (model prog w) A (call (.builtin "max") [.ref l] [("default", d)]) Q E s := by
  refine tree_kw F.kind_max F.plain_max F.entry_max (args_kw _ _) ?_
  show wpAny _ A.in1 (Builtin.Builtins.bindParams "max" ["key", "default"] 0 ⟨[], [("default", d)]⟩ >>= _) _ _ s
  refine wpAny_bind (wpAny_of_eq (show Builtin.Builtins.bindParams "max" ["key", "default"] 0 ⟨[], [("default", d)]⟩ = pure [none, some d] from rfl) ?_)
  refine wpAny_bind (wpAny_pure (wpAny_bind (iter_intList hl fun s2 e st inb ne => ?_)))
  refine wpAny_bind (wpAny_newObj_type ?_)
  have nS : s2.heap.objs.size ∉ [s.heap.objs.size, l] := fun z => Nat.lt_irrefl _ (inb _ z)
  rw [name_loop]
  have Wk := Walks.list (prog := prog) (w := w) (A := A.in1) hh s.heap.objs.size l ne (intItems xs)
  refine wpAny_pure ⟨plainId_quiet F.plain_max_loop _, firstT Wk (fun i j => decide (numAt xs i > numAt xs j)) (CmpOf.ints_gt (numAt xs) (fun _ _ => intItems_at)) s2.heap.objs.size nS "default" d (Wk.frame _ _ _ st fun b _ o z => Heap.get?_push_of_some _ z) (Heap.get?_push_size _ rfl) fun v h2 tk v0 v1 kp => ?_⟩
  have sz : (intItems xs).size = xs.size := by simp [intItems]
  rw [sz] at v0 v1
  subst e
  refine fin v h2 tk v0 v1 fun b o z => ?_
  have lb := Heap.lt_size z
  refine kp b o (fun y => ?_) (fun y => ?_) (Heap.get?_push_of_some _ (Heap.get?_push_of_some _ z))
  · rw [List.mem_singleton.mp y] at lb; exact Nat.lt_irrefl _ lb
  · rw [y] at lb
    have : (s.heap.push { cls := .type "list_iterator", data := .fields #[.ref l, .int 0 0] }).objs.size = s.heap.objs.size + 1 := Heap.size_push ..
    have lb' : (s.heap.push { cls := .type "list_iterator", data := .fields #[.ref l, .int 0 0] }).objs.size < s.heap.objs.size := lb
    rw [this] at lb'
    exact absurd lb' (Nat.not_lt.mpr (Nat.le_succ _))
end
/-- max(xs, default=d): the greatest, or d -/
def rMaxD (K : PySem.W.Frag) : List V → List V → Hp → VK → Prop := fun vs zs H Q => ∃ (a : Addr) (ns : List Int) (d : V), vs = [V.ref a] ∧ zs = [d] ∧ SqL K H a (ns.map V.int) ∧ (ns = [] → Q d H) ∧ ∀ m ∈ ns, (∀ k ∈ ns, k ≤ m) → Q (.int m) H
theorem cr_maxD {X : Cx} (hc : X.calm = true) : CallRK X (.builtin "max") ["default"] (rMaxD X.K) := by
  intro pins s σ H vs zs us ws Q I r rz h
  obtain ⟨p, ns, d, rfl, rfl, hs, q0, q1⟩ := h
  obtain ⟨its, rv, hl, _⟩ := I.list hs
  rw [Vals.ref1 r]
  cases rz with
  | @cons _ dv _ _ rd rn =>
    cases rn
    have hi := rv.ints
    obtain ⟨xs, e⟩ := hi.allInts.items
    have hn : numsOf (intItems xs).toList = ns := by rw [← e]; exact hi.numsOf
    rw [nums_intItems] at hn
    subst hn
    have hl2 := hl.isList
    rw [e] at hl2
    show wpAny _ _ (call (.builtin "max") [.ref p] [("default", dv)]) _ _ _
    refine max_dflt (I.ok.hd hc) hl2 fun v h2 tk v0 v1 kp => ?_
    by_cases z : xs.size = 0
    · rw [v0 z]
      have z2 : xs.toList = [] := List.length_eq_zero_iff.mp (by rw [Array.length_toList]; exact z)
      exact ⟨d, H, I.kept kp, rd, q0 (by rw [z2]; rfl)⟩
    · obtain ⟨t, rfl⟩ := intItems_at (v1 (by omega))
      obtain ⟨_, b2⟩ := argBest_gt (numAt xs) (xs.size - 1)
      refine ⟨.int _, H, I.kept kp, ⟨_, rfl⟩, q1 _ ?_ fun k hk => ?_⟩
      · rw [numAt_eq]; exact PySem.getD_mem (by rw [List.length_map, Array.length_toList]; omega)
      · obtain ⟨j, hj, rfl⟩ := mem_getD hk
        rw [List.length_map, Array.length_toList] at hj
        rw [← numAt_eq]; exact b2 j (by omega)
end MxD

namespace NlC
open PySem PySem.Spec PyProof.Rows L2
/-! a list of anything beside the empty list -/
section
variable {X : Cx}
def rNeNil (K : PySem.W.Frag) : R2 := fun x y H Q => ∃ (a b : Addr) (xs : List V), x = .ref a ∧ y = .ref b ∧ SqL K H a xs ∧ SqL K H b [] ∧ Q (.bl (!xs.isEmpty)) H
theorem op_neNil (hu : X.A.units < cLine) : OpR X (compareOp .NotEq) (rNeNil X.K) := by
  intro pins s σ H x y v u Q I rx ry h
  obtain ⟨a, b, xs, rfl, rfl, ha, hb, q⟩ := h
  cases rx
  cases ry
  obtain ⟨its, rv, l1, _⟩ := I.list ha
  obtain ⟨its2, rv2, l2, _⟩ := I.list hb
  have l1' : s.heap.IsList a its.toArray := by obtain ⟨o, n, ho, hc, _, hd⟩ := l1; exact ⟨o, ho, hc, n, hd⟩
  have l2' : s.heap.IsList b its2.toArray := by obtain ⟨o, n, ho, hc, _, hd⟩ := l2; exact ⟨o, ho, hc, n, hd⟩
  clear l1 l2
  have e2 : its2 = [] := rv2.zero
  subst e2
  cases xs with
  | nil =>
    have e1 : its = [] := rv.zero
    subst e1
    exact SeqAt.RcNeAt.lists l1' l2' rfl hu (e := fun _ => true) (fun j h => absurd h (Nat.not_lt_zero _)) X.prog X.w _ _ ⟨.bl _, H, I, rfl, q⟩
  | cons z zs =>
    cases rv with
    | cons r1 r2 =>
      exact SeqAt.RcNeAt.lists_lengths l1' l2' (by simp) hu X.prog X.w _ _ ⟨.bl _, H, I, rfl, q⟩
end
end NlC

/-! own: zip of a tuple and a list -/
namespace ZpM
open PySem PySem.Spec PyProof.Rows L2
def Izm (K : PySem.W.Frag) (a b : Addr) : It :=
  ⟨fun i H => ∃ (xs ys : List V) (x y : V), SqT K H a xs ∧ SqL K H b ys ∧ xs[i]? = some x ∧ ys[i]? = some y, fun i H v H' => ∃ pr x y, v = .ref pr ∧ H pr = none ∧ H' = upd H pr (.tup [x, y]) ∧ (∀ xs, SqT K H a xs → xs[i]? = some x) ∧ ∀ ys, SqL K H b ys → ys[i]? = some y, fun i H => ∃ xs ys : List V, SqT K H a xs ∧ SqL K H b ys ∧ i ≤ xs.length ∧ i ≤ ys.length ∧ (i = xs.length ∨ i = ys.length)⟩
/-- what a zip of the two keeps -/
def Tn (z TI TO i1 i2 a b : Addr) (i : Nat) (h : Heap) : Prop := IsZip h z TI TO .none ∧ IsTupOf2 h TI (.ref i1) (.ref i2) ∧ (∃ x y, IsTupOf2 h TO x y) ∧ h.IsTupleIter i1 a i ∧ h.IsListIter i2 b i
theorem mem5 {c z TI TO i1 i2 : Addr} (h : c ∈ [z, TI, TO, i1, i2]) : c = z ∨ c = TI ∨ c = TO ∨ c = i1 ∨ c = i2 := by simpa using h
theorem turn_zm {P : Program} {w : World} {K : PySem.W.Frag} {elts : List Expr} {kk : Nat} {tpos : Pos} {a b z TI TO i1 i2 : Addr} (S : ZipSep2 z TI TO i1 i2 [i1, a] [i2, b]) :
    Turn P w K (.Tuple elts kk tpos) (Izm K a b) [z, TI, TO, i1, i2] z (Tn z TI TO i1 i2 a b) where
  mem := List.mem_cons_self
  obj := fun i h tn c hc => by
    obtain ⟨tz, tI, ⟨x, y, tO⟩, ⟨o1, e1, _, d1⟩, ⟨o2, e2, _, d2⟩⟩ := tn
    rcases mem5 hc with q | q | q | q | q <;> rw [q]
    · exact ⟨_, tz, fun v y => nomatch y⟩
    · exact ⟨_, tI, fun v y => nomatch y⟩
    · exact ⟨_, tO, fun v y => nomatch y⟩
    · exact ⟨o1, e1, fun v y => by rw [d1] at y; cases y⟩
    · exact ⟨o2, e2, fun v y => by rw [d2] at y; cases y⟩
  keep := fun i h h' tn kp => by
    obtain ⟨tz, tI, ⟨x, y, tO⟩, t1, t2⟩ := tn
    exact ⟨kp z (by simp) _ tz, kp TI (by simp) _ tI, ⟨x, y, kp TO (by simp) _ tO⟩, t1.at fun o e => kp i1 (by simp) o e, t2.at fun o e => kp i2 (by simp) o e⟩
  item := by
    intro X hP hw hK hc i pins s σ H E I hf tn hg
    subst hP hw hK
    obtain ⟨tz, tI, ⟨x0, y0, tO⟩, t1, t2⟩ := tn
    obtain ⟨xs, ys, x, y, qx, qy, hx, hy⟩ := hg
    obtain ⟨its, rv, p1, _⟩ := I.tuple qx
    obtain ⟨jts, rw2, p2, _⟩ := I.list qy
    obtain ⟨u, hu, ru⟩ := rv.get hx
    obtain ⟨v, hv, rv2⟩ := rw2.get hy
    have l1 : s.heap.IsTuple a its.toArray := p1
    have l2 : s.heap.IsList b jts.toArray := p2.isList
    have na : a ≠ i1 := fun e => by
      obtain ⟨_, g1, c1, _⟩ := l1
      obtain ⟨_, g2, c2, _⟩ := t1
      rw [e, g2] at g1
      cases g1
      rw [c1] at c2
      exact absurd (Value.type.inj c2) (by decide)
    have nb : b ≠ i2 := fun e => by
      obtain ⟨_, _, g1, c1, _⟩ := p2
      obtain ⟨_, g2, c2, _⟩ := t2
      rw [e, g2] at g1
      cases g1
      rw [c1] at c2
      exact absurd (Value.type.inj c2) (by decide)
    have hh : X.A.in1.handled = none := I.ok.hd hc
    have zl : z < s.heap.objs.size := Heap.lt_size tz
    refine wpAny_pyNext_zipD2_item S (Draws.tuple hh i1 a na its.toArray) (Draws.list hh i2 b nb jts.toArray) tz tI tO ⟨t1, l1⟩ ⟨t2, l2⟩ ?_ ?_ fun u' v' h2 tk hu' hv' z2 O2 s1 s2 hT hs kp => ?_
    · have := (List.getElem?_eq_some_iff.mp hu).1
      simpa using this
    · have := (List.getElem?_eq_some_iff.mp hv).1
      simpa using this
    have eu : u' = u := by
      have h : its.toArray[i]? = some u' := hu'
      rw [List.getElem?_toArray, hu] at h
      exact (Option.some.inj h).symm
    have ev : v' = v := by
      have h : jts.toArray[i]? = some v' := hv'
      rw [List.getElem?_toArray, hv] at h
      exact (Option.some.inj h).symm
    subst eu ev
    refine ⟨_, rfl, wpAny_letOwnedTupleGo_zip (s := { s with heap := h2, toks := tk }) z2 fun h3 z3 sb => ?_⟩
    have T3 : h3.get? s.heap.objs.size = some { cls := .type "tuple", data := .seq #[u', v'] } := (sb.2 _ (Nat.ne_of_gt zl)).trans hT
    have made : ObjOk X.prog X.w (upd H s.heap.objs.size (.tup [x, y])) h3 s.heap.objs.size (.tup [x, y]) := ⟨by show 2 ≤ sizeLine; decide, [u', v'], .cons ru (.cons rv2 .nil), ⟨_, T3, rfl, _, rfl⟩⟩
    have I3 : Inv X pins σ (upd H s.heap.objs.size (.tup [x, y])) { s with heap := h3, toks := tk } :=
      I.turnedNew (ch := [z, TI, TO, i1, i2]) (fun c o nc e => (sb.2 c (fun y => nc (by simp [y]))).trans (kp c o (fun y => nc (by simp [y])) (fun y => nc (by simp [y])) (fun y => nc (by simp [y])) (fun y => nc (by simp [y])) e)) hf (Nat.le_refl _) made
    refine ⟨.ref s.heap.objs.size, _, I3, rfl, ⟨_, x, y, rfl, I.hok.fresh (Nat.le_refl _), rfl, fun l hl => by rw [I.tuple_inj hl qx]; exact hx, fun l hl => by rw [I.list_inj hl qy]; exact hy⟩, ⟨z3, ?_, ⟨_, _, (sb.2 _ S.TOz).trans O2⟩, s1.1.at fun o e => (sb.2 _ S.zi1.symm).trans e, s2.1.at fun o e => (sb.2 _ S.zi2.symm).trans e⟩, fun c hc => ?_⟩
    · exact (sb.2 _ S.TIz).trans (kp _ _ S.TIz S.TITO S.TIi1 S.TIi2 tI)
    · have lc : c < s.heap.objs.size := by
        rcases mem5 hc with q | q | q | q | q <;> rw [q]
        · exact zl
        · exact Heap.lt_size tI
        · exact Heap.lt_size tO
        · obtain ⟨_, e1, _⟩ := t1; exact Heap.lt_size e1
        · obtain ⟨_, e2, _⟩ := t2; exact Heap.lt_size e2
      rw [upd_ne (Nat.ne_of_lt lc)]
      exact (hf c hc).1
  done := by
    intro X hP hw hK hc i pins s σ H E I hf tn hg
    subst hP hw hK
    obtain ⟨tz, tI, ⟨x0, y0, tO⟩, t1, t2⟩ := tn
    obtain ⟨xs, ys, qx, qy, le1, le2, hend⟩ := hg
    obtain ⟨its, rv, p1, _⟩ := I.tuple qx
    obtain ⟨jts, rw2, p2, _⟩ := I.list qy
    have l1 : s.heap.IsTuple a its.toArray := p1
    have l2 : s.heap.IsList b jts.toArray := p2.isList
    have na : a ≠ i1 := fun e => by
      obtain ⟨_, g1, c1, _⟩ := l1
      obtain ⟨_, g2, c2, _⟩ := t1
      rw [e, g2] at g1
      cases g1
      rw [c1] at c2
      exact absurd (Value.type.inj c2) (by decide)
    have nb : b ≠ i2 := fun e => by
      obtain ⟨_, _, g1, c1, _⟩ := p2
      obtain ⟨_, g2, c2, _⟩ := t2
      rw [e, g2] at g1
      cases g1
      rw [c1] at c2
      exact absurd (Value.type.inj c2) (by decide)
    have hh : X.A.in1.handled = none := I.ok.hd hc
    have n1 : its.toArray.size = xs.length := by have := rv.length; simp; omega
    have n2 : jts.toArray.size = ys.length := by have := rw2.length; simp; omega
    exact wpAny_pyNext_zipD2_end S (Draws.tuple hh i1 a na its.toArray) (Draws.list hh i2 b nb jts.toArray) tz tI tO ⟨t1, l1⟩ ⟨t2, l2⟩ (by omega) (by omega) (by omega) fun h2 tk kp => ⟨rfl, I.turnedL (ch := [z, TI, TO, i1, i2]) (fun c o nc e =>
      kp c o (fun y => nc (by simp [y])) (fun y => nc (by simp [y])) (fun y => nc (by simp [y])) (fun y => nc (by simp [y])) e) hf⟩
  self := fun A i s Q E tn q => wpAny_pyIter_zip tn.1 q
def iZm (K : PySem.W.Frag) (ta : TA) : TI := fun σ H R => ta σ H fun vs H1 => ∃ a b xs ys, vs = [.ref a, .ref b] ∧ SqT K H1 a xs ∧ SqL K H1 b ys ∧ R (Izm K a b) H1
theorem pi_zm {X : Cx} {e e2 : Expr} {ta : TA} {p pos tpos : Pos} {elts : List Expr} {kk : Nat} (hg : Gl X "zip") (hm : X.mg "zip" = none) (ha : PA X [e, e2] ta)
    (hs : starEach [e, e2] X.env = (false, eval e X.env) :: starEach [e2] X.env := by rfl) (hpl : (backTo pos (starEach [e2] X.env)).any (·.1) = false := by rfl) : PI X (.Tuple elts kk tpos) (.Call (.Name "zip" p) [e, e2] [] pos) (iZm X.K ta) := by
  constructor
  intro pins s σ H R I h
  refine Call_ (ld_blt I hg hm PyProof.Rows.boot_zip (PyProof.Rows.callWith_type1 (thn (ha.run pos pins s σ H _ I h) fun us s1 ⟨vs, H1, I1, r1, q1⟩ => ?_) hs hpl))
  obtain ⟨a, b, xs, ys, ev, qx, qy, fin⟩ := q1
  subst ev
  cases r1 with
  | cons ra rr =>
    cases rr with
    | cons rb rr =>
      cases rr
      cases ra
      cases rb
      obtain ⟨its, rv, p1, _⟩ := I1.tuple qx
      obtain ⟨jts, rw2, p2, _⟩ := I1.list qy
      have l1 : s1.heap.IsTuple a its.toArray := p1
      have l2 : s1.heap.IsList b jts.toArray := p2.isList
      have la : a < s1.heap.objs.size := by obtain ⟨_, e1, _⟩ := id l1; exact Heap.lt_size e1
      have lb : b < s1.heap.objs.size := p2.lt
      refine zip_begins2 (begins_tuple a its.toArray) (begins_list b jts.toArray) l1 l2 fun h2 z2 T2 O2 g1 g2 sz2 kp => wpAny_pyIter_zip z2 ?_
      refine ⟨s1.heap.objs.size + 4, [s1.heap.objs.size + 4, s1.heap.objs.size + 2, s1.heap.objs.size + 3, s1.heap.objs.size, s1.heap.objs.size + 1], Tn (s1.heap.objs.size + 4) (s1.heap.objs.size + 2) (s1.heap.objs.size + 3) s1.heap.objs.size (s1.heap.objs.size + 1) a b, _, H1, rfl, I1.kept (t' := s1.toks) kp, turn_zm ?_, ⟨z2, T2, ⟨_, _, O2⟩, ⟨_, g1, rfl, rfl⟩, ⟨_, g2, rfl, rfl⟩⟩, fun c hc => ?_, fin⟩
      · generalize s1.heap.objs.size = n at *
        constructor
        all_goals first
          | exact List.mem_cons_self
          | (intro q; rcases List.mem_cons.mp q with q | q <;> (try rw [List.mem_singleton] at q) <;> (have la' : (a : Nat) < n := la; have lb' : (b : Nat) < n := lb; unfold Addr at *; omega))
          | (intro q; unfold Addr at *; omega)
      · have lc : s1.heap.objs.size ≤ c := by
          rcases mem5 hc with q | q | q | q | q <;> rw [q]
          · exact Nat.le_add_right _ _
          · exact Nat.le_add_right _ _
          · exact Nat.le_add_right _ _
          · exact Nat.le_refl _
          · exact Nat.le_add_right _ _
        exact I1.fpOk lc (I1.hok.fresh lc)
end ZpM

set_option Elab.async false
set_option linter.all false
set_option maxRecDepth 100000
set_option maxHeartbeats 4000000
namespace Gait
open PySem PySem.Spec PyProof.Rows L2
open Bar (vec vec_at clrF clrF_len clrF_at clrF_vec)
section
variable {X : Cx}
/-- // by any divisor but 0 -/
def CDivA (_ j : Int) : Prop := j ≠ 0 ∧ j.natAbs.log2 < 9000
theorem op_fdivA : OpR X (binaryOp .FloorDiv) (rI CDivA fun i j => .int (i.fdiv j)) := opI fun _ _ _ _ _ _ _ hc w => floordiv_int hc.1 w (.inl (PyProof.noPylong_of_log2 hc.2))
end
/-- what stood stands, but for what stands at r -/
def Kp (r : Addr) (H H' : Hp) : Prop := (∀ b o, b ≠ r → H b = some o → H' b = some o) ∧ ∀ c l, H r = some (.lst (.ref c :: l)) → ∃ l', H' r = some (.lst (.ref c :: l'))
theorem Kp.refl {r : Addr} {H : Hp} : Kp r H H := ⟨fun _ _ _ h => h, fun _ l h => ⟨l, h⟩⟩
theorem Kp.trans {r : Addr} {H H1 H2 : Hp} (a : Kp r H H1) (b : Kp r H1 H2) : Kp r H H2 := ⟨fun c o n h => b.1 c o n (a.1 c o n h), fun c l h => by
  obtain ⟨l1, h1⟩ := a.2 c l h
  exact b.2 c l1 h1⟩
theorem Kp.of {r : Addr} {H H' : Hp} (s : Same H H') : Kp r H H' := ⟨fun b o _ h => s b o h, fun _ l h => ⟨l, s _ _ h⟩⟩
theorem Kp.at {r c : Addr} {H : Hp} {l l' : List V} (e : H r = some (.lst (.ref c :: l))) : Kp r H (upd H r (.lst (.ref c :: l'))) := ⟨fun b u n h => by rw [upd_ne n]; exact h, fun d m h => by
  rw [e] at h
  cases h
  exact ⟨l', upd_same⟩⟩
theorem Kp.rd {r x : Addr} {H H' : Hp} {u : HO} (k : Kp r H H') (n : x ≠ r) (h : Rd H x u) : Rd H' x u := by
  rcases h with h | ⟨o, h⟩
  · exact .inl (k.1 _ _ n h)
  · exact .inr ⟨o, k.1 _ _ n h⟩
theorem Kp.L {K : PySem.W.Frag} {r x : Addr} {H H' : Hp} {xs : List V} (k : Kp r H H') (n : x ≠ r) (h : SqL K H x xs) : SqL K H' x xs := by
  rcases h with h | h
  · exact .inl (k.rd n h)
  · exact .inr h
theorem Kp.T {K : PySem.W.Frag} {r x : Addr} {H H' : Hp} {xs : List V} (k : Kp r H H') (n : x ≠ r) (h : SqT K H x xs) : SqT K H' x xs := by
  rcases h with h | h
  · exact .inl (k.rd n h)
  · exact .inr h
theorem Same.T {K : PySem.W.Frag} {x : Addr} {H H' : Hp} {xs : List V} (k : Same H H') (h : SqT K H x xs) : SqT K H' x xs := by
  rcases h with (h | ⟨o, h⟩) | h
  · exact .inl (.inl (k _ _ h))
  · exact .inl (.inr ⟨o, k _ _ h⟩)
  · exact .inr h
theorem Same.new {H : Hp} {p : Addr} {o : HO} (h : H p = none) : Same H (upd H p o) := fun b x e => by
  rw [upd_ne (ne_of_none e h)]
  exact e
theorem some_ne_none {H : Hp} {p q : Addr} {o : HO} (h : H p = some o) (n : H q = none) : p ≠ q := ne_of_none h n
/-- the law's source of numbers at r -/
structure RgS (H : Hp) (r c : Addr) (ns : List Int) (i x k : Int) : Prop where
  hr : H r = some (.lst [.ref c, .int i, .int x, .int k])
  hc : H c = some (.lst (ns.map V.int))
  i0 : 0 ≤ i
  i1 : i ≤ (ns.length : Int)
  x0 : 0 ≤ x
  k0 : 0 ≤ k
  k1 : k < 2147483563
theorem RgS.ne {H : Hp} {r c : Addr} {ns : List Int} {i x k : Int} (R : RgS H r c ns i x k) : c ≠ r := by
  refine ne_of R.hc R.hr fun z => ?_
  cases ns with
  | nil => cases z
  | cons m l => cases z
theorem RgS.set {H : Hp} {r c : Addr} {ns : List Int} {i x k i' x' k' : Int} (R : RgS H r c ns i x k) (i0 : 0 ≤ i') (i1 : i' ≤ (ns.length : Int)) (x0 : 0 ≤ x') (k0 : 0 ≤ k') (k1 : k' < 2147483563) : RgS (upd H r (.lst [.ref c, .int i', .int x', .int k'])) r c ns i' x' k' :=
  ⟨upd_same, by rw [upd_ne R.ne]; exact R.hc, i0, i1, x0, k0, k1⟩
def Rg (H : Hp) (r : Addr) : Prop := ∃ c ns i x k, RgS H r c ns i x k
theorem Rg.same {H H' : Hp} {r : Addr} (R : Rg H r) (s : Same H H') : Rg H' r := by
  obtain ⟨c, ns, i, x, k, R⟩ := R
  exact ⟨c, ns, i, x, k, s _ _ R.hr, s _ _ R.hc, R.i0, R.i1, R.x0, R.k0, R.k1⟩
theorem Rg.some {H : Hp} {r : Addr} (R : Rg H r) : ∃ o, H r = some o := by
  obtain ⟨c, ns, i, x, k, R⟩ := R
  exact ⟨_, R.hr⟩
theorem Rg.ne {H : Hp} {r p : Addr} (R : Rg H r) (h : H p = none) : p ≠ r := by
  obtain ⟨o, e⟩ := R.some
  exact (ne_of_none e h).symm
/-- what is new at H2 may be written later -/
theorem Rg.put {H2 H5 : Hp} {r D : Addr} {o : HO} (R2 : Rg H2 r) (nD : H2 D = none) (k : Kp r H2 H5) (R5 : Rg H5 r) : Rg (upd H5 D o) r := by
  have Dr : D ≠ r := R2.ne nD
  obtain ⟨c2, n2, i2, x2, k2, R2⟩ := R2
  obtain ⟨c, ns, i, x, kk, R⟩ := R5
  obtain ⟨l', e⟩ := k.2 _ _ R2.hr
  rw [R.hr] at e
  cases e
  exact ⟨c2, ns, i, x, kk, by rw [upd_ne Dr.symm]; exact R.hr, by rw [upd_ne (ne_of_none R2.hc nD)]; exact R.hc, R.i0, R.i1, R.x0, R.k0, R.k1⟩
theorem Kp.put {H H2 H5 : Hp} {r D : Addr} {o : HO} (nD : H2 D = none) (Dr : D ≠ r) (k : Kp r H2 H5) : Kp r H2 (upd H5 D o) := ⟨fun b u nb e => by
  rw [upd_ne (ne_of_none e nD)]
  exact k.1 _ _ nb e, fun c l e => by
  obtain ⟨l', e'⟩ := k.2 c l e
  exact ⟨l', by rw [upd_ne Dr.symm]; exact e'⟩⟩
theorem sz {n : Nat} (h : n ≤ 100000) : n ≤ sizeLine := Nat.le_trans h (by decide)
theorem szl {n : Nat} (h : n < 100000) : n < sizeLine := Nat.lt_of_lt_of_le h (by decide)
theorem gcd_step {a b : Int} (h0 : 0 ≤ a) (hb : 0 ≤ b) : Int.gcd b (a % b) = Int.gcd a b := by
  rw [Int.gcd_eq_natAbs_gcd_natAbs, Int.gcd_eq_natAbs_gcd_natAbs, Int.natAbs_emod_of_nonneg h0, Nat.gcd_comm a.natAbs b.natAbs, Nat.gcd_rec b.natAbs a.natAbs, Nat.gcd_comm]
/-- a fraction in lowest terms -/
def red (n d : Int) : Int × Int := ((if d > 0 then 1 else -1) * n / (Int.gcd n d : Int), (if d > 0 then 1 else -1) * d / (Int.gcd n d : Int))
theorem gcd_posI {n d : Int} (hd : d ≠ 0) : (0 : Int) < (Int.gcd n d : Int) := by
  have : 0 < Int.gcd n d := Int.gcd_pos_of_ne_zero_right n hd
  omega
theorem sgn_cases (d : Int) : ((if d > 0 then (1 : Int) else -1) = 1 ∧ d > 0) ∨ ((if d > 0 then (1 : Int) else -1) = -1 ∧ ¬ d > 0) := by
  by_cases h : d > 0
  · exact .inl ⟨if_pos h, h⟩
  · exact .inr ⟨if_neg h, h⟩
theorem red_parts {n d : Int} (hd : d ≠ 0) : ∃ s g a b : Int, (s = 1 ∨ s = -1) ∧ 0 < g ∧ g = (Int.gcd n d : Int) ∧ s * n = g * a ∧ s * d = g * b ∧ 0 < b ∧ red n d = (a, b) ∧ Int.gcd a b = 1 := by
  have g0 := gcd_posI (n := n) hd
  obtain ⟨u, hu⟩ := Int.gcd_dvd_left n d
  obtain ⟨v, hv⟩ := Int.gcd_dvd_right n d
  have hg : Int.gcd u v = 1 := by
    have h1 : Int.gcd n d = (Int.gcd n d) * Int.gcd u v := by
      have e := Int.gcd_mul_left (Int.gcd n d : Int) u v
      rw [← hu, ← hv] at e
      simpa using e
    have h2 : 0 < Int.gcd n d := by omega
    have h3 : Int.gcd n d * 1 = Int.gcd n d * Int.gcd u v := by omega
    exact (Nat.eq_of_mul_eq_mul_left h2 h3).symm
  generalize hG : (Int.gcd n d : Int) = g at *
  have key : ∀ s : Int, (s = 1 ∨ s = -1) → Int.gcd (s * u) (s * v) = 1 := by
    intro s hs
    rcases hs with rfl | rfl
    · simpa using hg
    · simpa using hg
  have div : ∀ s w x : Int, x = g * w → s * x / g = s * w := by
    intro s w x e
    rw [e, show s * (g * w) = g * (s * w) by rw [← Int.mul_assoc, Int.mul_comm s g, Int.mul_assoc]]
    exact Int.mul_ediv_cancel_left _ (by omega)
  rcases sgn_cases d with ⟨e, h⟩ | ⟨e, h⟩
  · refine ⟨1, g, 1 * u, 1 * v, .inl rfl, g0, rfl, ?_, ?_, ?_, ?_, key 1 (.inl rfl)⟩
    · rw [hu]; simp
    · rw [hv]; simp
    · have : 0 < g * v := by omega
      have := Int.pos_of_mul_pos_right this (by omega)
      omega
    · unfold red
      rw [e, hG, div 1 u n hu, div 1 v d hv]
  · refine ⟨-1, g, -1 * u, -1 * v, .inr rfl, g0, rfl, ?_, ?_, ?_, ?_, key (-1) (.inr rfl)⟩
    · rw [hu]; simp [Int.mul_neg]
    · rw [hv]; simp [Int.mul_neg]
    · have h4 : 0 < g * (-v) := by
        rw [Int.mul_neg]
        omega
      have := Int.pos_of_mul_pos_right h4 (by omega)
      omega
    · unfold red
      rw [e, hG, div (-1) u n hu, div (-1) v d hv]
theorem red_pos {n d : Int} (hd : d ≠ 0) : 0 < (red n d).2 := by
  obtain ⟨s, g, a, b, _, _, _, _, _, hb, e, _⟩ := red_parts (n := n) hd
  rw [e]; exact hb
theorem red_gcd {n d : Int} (hd : d ≠ 0) : Int.gcd (red n d).1 (red n d).2 = 1 := by
  obtain ⟨s, g, a, b, _, _, _, _, _, hb, e, hg⟩ := red_parts (n := n) hd
  rw [e]; exact hg
theorem red_eq {n d : Int} (hd : d ≠ 0) : (red n d).1 * d = n * (red n d).2 := by
  obtain ⟨s, g, a, b, hs, g0, _, h1, h2, hb, e, hg⟩ := red_parts (n := n) hd
  rw [e]
  show a * d = n * b
  have hs2 : s ≠ 0 := by omega
  apply Int.eq_of_mul_eq_mul_left (a := s * g) (by
    intro z
    rcases Int.mul_eq_zero.mp z with z | z <;> omega)
  calc s * g * (a * d) = (g * a) * (s * d) := by simp only [Int.mul_assoc, Int.mul_comm, Int.mul_left_comm]
    _ = (s * n) * (g * b) := by rw [h1, h2]
    _ = s * g * (n * b) := by simp only [Int.mul_assoc, Int.mul_comm, Int.mul_left_comm]
theorem natAbs_sgn {s n : Int} (hs : s = 1 ∨ s = -1) : (s * n).natAbs = n.natAbs := by
  rcases hs with rfl | rfl
  · simp
  · simp
theorem red_le1 {n d : Int} (hd : d ≠ 0) : (red n d).1.natAbs ≤ n.natAbs := by
  obtain ⟨s, g, a, b, hs, g0, _, h1, h2, hb, e, hg⟩ := red_parts (n := n) hd
  rw [e, ← natAbs_sgn (n := n) hs, h1, Int.natAbs_mul]
  exact Nat.le_mul_of_pos_left _ (by omega)
theorem red_le2 {n d : Int} (hd : d ≠ 0) : (red n d).2.natAbs ≤ d.natAbs := by
  obtain ⟨s, g, a, b, hs, g0, _, h1, h2, hb, e, hg⟩ := red_parts (n := n) hd
  rw [e, ← natAbs_sgn (n := d) hs, h2, Int.natAbs_mul]
  exact Nat.le_mul_of_pos_left _ (by omega)
theorem dvd_cop {x y z : Int} (h : x ∣ y * z) (g : Int.gcd x z = 1) : x ∣ y := by
  rw [← Int.natAbs_dvd_natAbs, Int.natAbs_mul] at h
  rw [← Int.natAbs_dvd_natAbs]
  exact Nat.Coprime.dvd_of_dvd_mul_right g h
theorem low_unique {a b c e : Int} (hb : 0 < b) (he : 0 < e) (g1 : Int.gcd a b = 1) (g2 : Int.gcd c e = 1) (h : a * e = c * b) : a = c ∧ b = e := by
  have d1 : b ∣ e := by
    have : b ∣ e * a := ⟨c, by rw [Int.mul_comm e a, h, Int.mul_comm]⟩
    exact dvd_cop this (by rw [Int.gcd_comm]; exact g1)
  have d2 : e ∣ b := by
    have : e ∣ b * c := ⟨a, by rw [Int.mul_comm b c, ← h, Int.mul_comm]⟩
    exact dvd_cop this (by rw [Int.gcd_comm]; exact g2)
  have hbe : b = e := Int.dvd_antisymm (by omega) (by omega) d1 d2
  subst hbe
  exact ⟨Int.eq_of_mul_eq_mul_right (by omega) h, rfl⟩
theorem red_unique {n d a b : Int} (hd : d ≠ 0) (hb : 0 < b) (g : Int.gcd a b = 1) (h : a * d = n * b) : red n d = (a, b) := by
  have h1 := red_eq (n := n) hd
  have h2 : (red n d).1 * b = a * (red n d).2 := by
    apply Int.eq_of_mul_eq_mul_right hd
    calc (red n d).1 * b * d = ((red n d).1 * d) * b := by simp only [Int.mul_assoc, Int.mul_comm, Int.mul_left_comm]
      _ = (n * b) * (red n d).2 := by rw [h1]; simp only [Int.mul_assoc, Int.mul_comm, Int.mul_left_comm]
      _ = a * (red n d).2 * d := by rw [← h]; simp only [Int.mul_assoc, Int.mul_comm, Int.mul_left_comm]
  obtain ⟨e1, e2⟩ := low_unique (red_pos (n := n) hd) hb (red_gcd hd) g h2
  exact Prod.ext e1 e2
theorem red_self {n d : Int} (hd : 0 < d) (g : Int.gcd n d = 1) : red n d = (n, d) := red_unique (by omega) hd g rfl

/-- the fraction n / d, as a tuple -/
def Fr (K : PySem.W.Frag) (H : Hp) (v : V) (n d : Int) : Prop := ∃ p, v = .ref p ∧ SqT K H p [.int n, .int d]
theorem RgT {K : PySem.W.Frag} {H H' : Hp} {r p : Addr} {xs : List V} (R : Rg H r) (k : Kp r H H') (h : SqT K H p xs) : SqT K H' p xs := by
  obtain ⟨c, ns, i, x, kk, R⟩ := R
  rcases h with (h | ⟨o, h⟩) | h
  · exact .inl (.inl (k.1 _ _ (ne_of h R.hr (fun z => by cases z)) h))
  · exact .inl (.inr ⟨o, k.1 _ _ (ne_of h R.hr (fun z => by cases z)) h⟩)
  · exact .inr h
theorem Fr.kp {K : PySem.W.Frag} {H H' : Hp} {r : Addr} {v : V} {n d : Int} (f : Fr K H v n d) (R : Rg H r) (k : Kp r H H') : Fr K H' v n d := by
  obtain ⟨p, e, h⟩ := f
  exact ⟨p, e, RgT R k h⟩
theorem Fr.same {K : PySem.W.Frag} {H H' : Hp} {v : V} {n d : Int} (f : Fr K H v n d) (k : Same H H') : Fr K H' v n d := by
  obtain ⟨p, e, h⟩ := f
  exact ⟨p, e, Same.T k h⟩
theorem Fr.new {K : PySem.W.Frag} {H : Hp} {p : Addr} {n d : Int} : Fr K (upd H p (.tup [.int n, .int d])) (.ref p) n d := ⟨p, rfl, SqT.of upd_same⟩
/-- a fraction of the law's own: lowest terms, its size -/
structure FrB (K : PySem.W.Frag) (H : Hp) (v : V) (n d : Int) (B : Nat) : Prop where
  fr : Fr K H v n d
  d0 : 0 < d
  g : Int.gcd n d = 1
  nB : n.natAbs < 2 ^ B
  dB : d.natAbs < 2 ^ B
theorem FrB.kp {K : PySem.W.Frag} {H H' : Hp} {r : Addr} {v : V} {n d : Int} {B : Nat} (f : FrB K H v n d B) (R : Rg H r) (k : Kp r H H') : FrB K H' v n d B := ⟨f.fr.kp R k, f.d0, f.g, f.nB, f.dB⟩
theorem FrB.same {K : PySem.W.Frag} {H H' : Hp} {v : V} {n d : Int} {B : Nat} (f : FrB K H v n d B) (k : Same H H') : FrB K H' v n d B := ⟨f.fr.same k, f.d0, f.g, f.nB, f.dB⟩
theorem red_B {K : PySem.W.Frag} {H : Hp} {p : Addr} {n d : Int} {B : Nat} (hd : d ≠ 0) (h1 : n.natAbs < 2 ^ B) (h2 : d.natAbs < 2 ^ B) : FrB K (upd H p (.tup [.int (red n d).1, .int (red n d).2])) (.ref p) (red n d).1 (red n d).2 B :=
  ⟨Fr.new, red_pos hd, red_gcd hd, Nat.lt_of_le_of_lt (red_le1 hd) h1, Nat.lt_of_le_of_lt (red_le2 hd) h2⟩
theorem log2_lt {j : Int} {b : Nat} (hb : j.natAbs < 2 ^ b) (h0 : 0 < b) (h9 : b ≤ 9000) : j.natAbs.log2 < 9000 := Nat.lt_of_lt_of_le (PySem.Flt.log2_lt_of h0 hb) h9
/-! ### equal data -/
def atom : V → Bool
  | .non => true | .bl _ => true | .int _ => true | .str _ => true | _ => false
def Eqd (K : PySem.W.Frag) (H : Hp) : Nat → V → V → Prop
  | 0, x, y => x = y ∧ atom x = true
  | n + 1, x, y => (x = y ∧ atom x = true) ∨ ∃ a b xs ys, x = .ref a ∧ y = .ref b ∧ ((SqL K H a xs ∧ SqL K H b ys) ∨ (SqT K H a xs ∧ SqT K H b ys)) ∧ xs.length = ys.length ∧ xs.length ≤ 100000 ∧ ∀ (i : Nat) u v, xs[i]? = some u → ys[i]? = some v → Eqd K H n u v
theorem Eqd.same {K : PySem.W.Frag} {H H' : Hp} (s : Same H H') : ∀ {n : Nat} {x y : V}, Eqd K H n x y → Eqd K H' n x y
  | 0, _, _, h => h
  | n + 1, _, _, .inl h => .inl h
  | n + 1, _, _, .inr ⟨a, b, xs, ys, e1, e2, h, l, l2, k⟩ => .inr ⟨a, b, xs, ys, e1, e2, h.elim (fun z => .inl ⟨s.seq z.1, s.seq z.2⟩) (fun z => .inr ⟨Same.T s z.1, Same.T s z.2⟩), l, l2, fun i u v hu hv => Eqd.same s (k i u v hu hv)⟩
theorem Eqd.up {K : PySem.W.Frag} {H : Hp} : ∀ {n : Nat} {x y : V}, Eqd K H n x y → Eqd K H (n + 1) x y
  | 0, _, _, h => .inl h
  | n + 1, _, _, .inl h => .inl h
  | n + 1, _, _, .inr ⟨a, b, xs, ys, e1, e2, h, l, l2, k⟩ => .inr ⟨a, b, xs, ys, e1, e2, h, l, l2, fun i u v hu hv => Eqd.up (k i u v hu hv)⟩
theorem Eqd.mono {K : PySem.W.Frag} {H : Hp} {n m : Nat} {x y : V} (h : Eqd K H n x y) (l : n ≤ m) : Eqd K H m x y := by
  induction l with
  | refl => exact h
  | step _ ih => exact ih.up
theorem Eqd.atom {K : PySem.W.Frag} {H : Hp} {n : Nat} {x : V} (h : atom x = true) : Eqd K H n x x := by
  cases n with
  | zero => exact ⟨rfl, h⟩
  | succ n => exact .inl ⟨rfl, h⟩
theorem all2_nil {R : V → V → Prop} : ∀ (i : Nat) u v, ([] : List V)[i]? = some u → ([] : List V)[i]? = some v → R u v := fun i u v h => by cases h
theorem all2_cons {R : V → V → Prop} {x y : V} {xs ys : List V} (h : R x y) (k : ∀ (i : Nat) u v, xs[i]? = some u → ys[i]? = some v → R u v) : ∀ (i : Nat) u v, (x :: xs)[i]? = some u → (y :: ys)[i]? = some v → R u v
  | 0, u, v, h1, h2 => by cases h1; cases h2; exact h
  | i + 1, u, v, h1, h2 => k i u v h1 h2
theorem Eqd.lst {K : PySem.W.Frag} {H : Hp} {n : Nat} {a b : Addr} {xs ys : List V} (h1 : SqL K H a xs) (h2 : SqL K H b ys) (l : xs.length = ys.length) (l2 : xs.length ≤ 100000) (k : ∀ (i : Nat) u v, xs[i]? = some u → ys[i]? = some v → Eqd K H n u v) : Eqd K H (n + 1) (.ref a) (.ref b) :=
  .inr ⟨a, b, xs, ys, rfl, rfl, .inl ⟨h1, h2⟩, l, l2, k⟩
theorem Eqd.tup {K : PySem.W.Frag} {H : Hp} {n : Nat} {a b : Addr} {xs ys : List V} (h1 : SqT K H a xs) (h2 : SqT K H b ys) (l : xs.length = ys.length) (l2 : xs.length ≤ 100000) (k : ∀ (i : Nat) u v, xs[i]? = some u → ys[i]? = some v → Eqd K H n u v) : Eqd K H (n + 1) (.ref a) (.ref b) :=
  .inr ⟨a, b, xs, ys, rfl, rfl, .inr ⟨h1, h2⟩, l, l2, k⟩
theorem tyL {K : PySem.W.Frag} {H : Hp} {a : Addr} {xs : List V} (h : SqL K H a xs) : TyX K H (.ref a) (.type "list") := by
  rcases h with (h | ⟨o, h⟩) | ⟨o, its, n, h, c, _⟩
  · exact .base (.lst h)
  · exact .base (.frz h)
  · exact .kList h c
theorem tyT {K : PySem.W.Frag} {H : Hp} {a : Addr} {xs : List V} (h : SqT K H a xs) : TyX K H (.ref a) (.type "tuple") := by
  rcases h with (h | ⟨o, h⟩) | ⟨o, its, n, h, c, _⟩
  · exact .base (.tup h)
  · exact .fTuple h
  · exact .kTuple h c
theorem rd_isi {K : PySem.W.Frag} {H : Hp} {x : V} {t c : String} {b : Bool} {Q : VK} (ty : TyX K H x (.type t)) (h : kitB t c = some b) (w : Q (.bl b) H) : rIsi K [x, .ty c] H Q := ⟨x, .ty c, .type t, .type c, b, rfl, .ty c, ty, kit_ty h, w⟩
theorem ifF {c : Bool} {A B : Prop} (hc : c = false) (h : B) : if c = true then A else B := by rw [hc, if_neg Bool.false_ne_true]; exact h
theorem ifT {c : Bool} {A B : Prop} (hc : c = true) (h : A) : if c = true then A else B := by rw [if_pos hc]; exact h
theorem fn_false {P : Program} {w : World} {K : PySem.W.Frag} {mg : Str → Option Value} {base : Heap} {CX : CXT} {k : Nat} {f : Addr} {fd : FuncData} {ps : List Str} : FnOk P w K mg base CX k f fd ps (fun _ _ _ _ => False) :=
  ⟨fun _ _ _ _ h => h.elim, fun _ _ _ _ _ _ _ _ _ _ _ _ _ h => h.elim⟩
theorem tYes_if {σ : L2.St} {H : Hp} {A B : Hp → Prop} (h : A H) : tYes σ H fun b H3 => if b = true then A H3 else B H3 := by
  show (if true = true then A H else B H)
  rw [if_pos rfl]
  exact h
/-! ### f(k = v, ..), nothing by position -/
def tCallN0 (m : Nat) (sp : Sp) (gV : List V → List V → List V) (E : XK) (tk : TA) : TE := fun σ H Q => tk σ H fun zs H2 => zs.length = m ∧ sp (gV [] zs) H2 Q E
theorem pe_callN0 {X : Cx} {CX : CXT} {k : Nat} {f : Addr} {fd : FuncData} {ps ks : List Str} {sp : Sp} {E : XK} {x : Str} {p pos : Pos} {kws : List Keyword} {tk : TA} {g : List Value → List Value → List Value} {gV : List V → List V → List V}
    (F : FnOk X.prog X.w X.K X.mg X.base CX k f fd ps sp) (hr : Room k X.A) (hg : Gl X x) (hm : X.mg x = some (.ref f)) (hk : PySem.W.keepIn X.K (.ref f) = true) (hb : KBn X.K fd ps 0 ks g gV) (hx : Passes CX X E)
    (hkw : PK X kws tk) (hall : (backToKw pos (keywordEach kws X.env)).all (·.1.isSome) = true := by rfl) (hks : (backToKw pos (keywordEach kws X.env)).filterMap (·.1) = ks := by rfl)
    (hdb : (x == ("__debug__" : Str)) = false := by decide) (hpl : ((backTo pos (starEach [] X.env)).any (·.1) || (backToKw pos (keywordEach kws X.env)).any (·.1.isNone)) = false := by rfl) :
    PE X (.Call (.Name x p) [] kws pos) (tCallN0 ks.length sp gV E tk) := by
  refine ⟨fun pins s σ H Q I h => ?_⟩
  refine wpAny_Call_Name_kw (ld_glob I hg hm ?_ hdb)
  refine PySem.W.callWith_KW0 (h₀ := X.base) I.ok.mod.kin hk hall (thn (hkw.run pos pins s σ H _ I h) fun ws s2 ⟨zs, H2, I2, rz, l2, q2⟩ => ⟨I2.kIn, ?_⟩) hpl
  rw [hks]
  exact run_fnN (us := []) (vs := []) F hr hb hx I2 .nil rz rfl l2 q2
theorem FunD.ok0 {P : Program} {w : World} {K : PySem.W.Frag} {mg : Str → Option Value} {base : Heap} {x qual : Str} {params : Arguments} {body : List Stmt} {scope : Scope} {dvs : List V} {kws : List (Str × V)} {f : Addr} {fd : FuncData} {N ps : List Str} {k : Nat} {sp : Sp}
    (F : FunD K x qual params body scope dvs kws f fd) (S : FnScope N ps scope) (len : ∀ vs H Q E, sp vs H Q E → vs.length = ps.length)
    (hbody : ∀ (cdv : Value) (A : Around) (outer : List Env) (s : Shared) (H : Hp) (vs : List V) (Q : VK) (E : XK), Room k (A.deeper (envOfC qual scope s.heap.objs.size f cdv)) → sp vs H Q E →
      ∃ t, PSs (cxOf CX0 P w K mg base N qual scope f cdv A outer s H E).nox body t ∧ t { nx := fun _ H' => Q .non H', rt := Q } (start N vs) H) : FnOk P w K mg base CX0 (k + 1) f fd ps sp :=
  F.ok S len fun cdv A outer s H vs Q E hr h => by
    obtain ⟨t, a, b⟩ := hbody cdv A outer s H vs Q E hr h
    exact ⟨t, a.nox, b⟩
theorem u65 {k : Nat} {A : Around} (r : Room k A) : A.units + 65 < cLine := by have := r.un; omega
theorem u2 {k : Nat} {A : Around} (r : Room k A) : A.units + 1 < cLine := by have := r.un; omega
theorem ixT {X : Cx} {K : PySem.W.Frag} (h : X.K = K) : IxR X (rIxT K) := by subst h; exact ix_tup
theorem ixL {X : Cx} {K : PySem.W.Frag} (h : X.K = K) : IxR X (rIxL K) := by subst h; exact ix_list
theorem ixS {X : Cx} {K : PySem.W.Frag} (h : X.K = K) : IxR X (rIx K) := by subst h; exact ix_seq
theorem crSumK {X : Cx} {K : PySem.W.Frag} (hc : X.calm = true) (h : X.K = K) : CallR X (.builtin "sum") (rSum K) := by subst h; exact cr_sum hc
theorem callLenK {X : Cx} {K : PySem.W.Frag} (h : X.K = K) : CallR X (.builtin "len") (fun xs H Q => ∃ x n, xs = [x] ∧ LenV K x H n ∧ Q (.int n) H) := by subst h; exact call_len
theorem go_name {i : Nat} {v : V} {σ : L2.St} {H : Hp} {Q : L2.St → Hp → Prop} (h : Q (σ.set i (some v)) H) : gName i v σ H Q := h
theorem go_next {D : Ends} {σ : L2.St} {H : Hp} (h : D.nx σ H) : tNext D σ H := h
theorem go_seq {t u : TS} {D : Ends} {σ : L2.St} {H : Hp} (h : t { D with nx := u D } σ H) : tSeq t u D σ H := h
theorem go_asg {te : TE} {g : TG} {D : Ends} {σ : L2.St} {H : Hp} (h : te σ H fun x H1 => g x σ H1 D.nx) : tAsg te g D σ H := h
theorem both {te : TE} {σ : L2.St} {H : Hp} {Q : VK} (F : V → Hp → Prop) (main : ∀ v H', F v H' → Q v H') (step : ∀ Q' : VK, (∀ v H', F v H' → Q' v H') → te σ H Q') : te σ H Q := step Q main
theorem piLK {X : Cx} {K : PySem.W.Frag} {tg e : Expr} {t : TE} (h : X.K = K) (he : PE X e t) : PI X tg e (iList K t) := by subst h; exact pi_list he
theorem piTK {X : Cx} {K : PySem.W.Frag} {tg e : Expr} {t : TE} (h : X.K = K) (he : PE X e t) : PI X tg e (iTup K t) := by subst h; exact pi_tup he

/-! ### names -/
def kws4 : List V := [.str "max", .str "min", .str "median", .str "mix"]
def lowB (c : Nat) : Bool := decide (97 ≤ c) && decide (c ≤ 122)
def nameB (z : Str) : Bool := (decide (1 ≤ z.length) && decide (z.length ≤ 6)) && (z.cps.toList.all lowB && !inV (.str z) kws4)
theorem one_lt {c d : Nat} : ([c] < [d]) ↔ c < d := by simp [List.cons_lt_cons_iff]
theorem str_a : (("a" : Str)).cps.toList = [97] := by decide +kernel
theorem str_z : (("z" : Str)).cps.toList = [122] := by decide +kernel
theorem le_a {c : Nat} : (!decide ((⟨#[c]⟩ : Str).cps.toList < ("a" : Str).cps.toList)) = decide (97 ≤ c) := by
  rw [str_a]
  show (!decide ([c] < [97])) = _
  by_cases h : c < 97
  · rw [decide_eq_true (one_lt.mpr h), decide_eq_false (by omega)]; rfl
  · rw [decide_eq_false (fun z => h (one_lt.mp z)), decide_eq_true (by omega)]; rfl
theorem le_z {c : Nat} : (!decide (("z" : Str).cps.toList < (⟨#[c]⟩ : Str).cps.toList)) = decide (c ≤ 122) := by
  rw [str_z]
  show (!decide ([122] < [c])) = _
  by_cases h : 122 < c
  · rw [decide_eq_true (one_lt.mpr h), decide_eq_false (by omega)]; rfl
  · rw [decide_eq_false (fun z => h (one_lt.mp z)), decide_eq_true (by omega)]; rfl
theorem abc_mem {c : Nat} : decide (c ∈ (("abcdefghijklmnopqrstuvwxyz" : Str)).cps.toList) = lowB c := by
  have e : (("abcdefghijklmnopqrstuvwxyz" : Str)).cps.toList = (List.range 26).map (· + 97) := by decide +kernel
  rw [e]
  unfold lowB
  by_cases h : 97 ≤ c ∧ c ≤ 122
  · rw [decide_eq_true h.1, decide_eq_true h.2]
    exact decide_eq_true (List.mem_map.mpr ⟨c - 97, by rw [List.mem_range]; omega, by omega⟩)
  · have z : (decide (97 ≤ c) && decide (c ≤ 122)) = false := by
      cases h1 : decide (97 ≤ c) <;> cases h2 : decide (c ≤ 122)
      · rfl
      · rfl
      · rfl
      · exact absurd ⟨of_decide_eq_true h1, of_decide_eq_true h2⟩ h
    rw [z]
    refine decide_eq_false fun hm => ?_
    obtain ⟨x, hx, e⟩ := List.mem_map.mp hm
    rw [List.mem_range] at hx
    omega
theorem tk_more {α β : Type} {f : α → β} {l : List α} {i : Nat} {c : α} (h : l[i]? = some c) : ((l.take (i + 1)).map f) = (l.take i).map f ++ [f c] := by
  rw [List.take_add_one, h, List.map_append]
  rfl
theorem cps_len (z : Str) : z.cps.toList.length = z.length := by simp [Str.length]
theorem gcd_fmod {a b : Int} : Int.gcd b (a.fmod b) = Int.gcd a b := by
  rw [Int.fmod_def, Int.gcd_sub_mul_left_right, Int.gcd_comm]
theorem fmod_lt {a b : Int} (hb : b ≠ 0) : (a.fmod b).natAbs < b.natAbs := by
  have pos : ∀ x y : Int, 0 < y → (x.fmod y).natAbs < y.natAbs := fun x y h => by
    rw [Int.fmod_eq_emod_of_nonneg x (by omega)]
    have h1 := Int.emod_nonneg x (show y ≠ 0 by omega)
    have h2 := Int.emod_lt_of_pos x h
    omega
  rcases Int.lt_or_lt_of_ne hb with h | h
  · have e := pos (-a) (-b) (by omega)
    rw [Int.neg_fmod_neg] at e
    omega
  · exact pos a b h
theorem frac_red {n d : Int} (hd : d ≠ 0) : (n.fdiv (if d < 0 then -(Int.gcd n d : Int) else (Int.gcd n d : Int)), d.fdiv (if d < 0 then -(Int.gcd n d : Int) else (Int.gcd n d : Int))) = red n d := by
  have g0 := gcd_posI (n := n) hd
  have d1 := Int.gcd_dvd_left n d
  have d2 := Int.gcd_dvd_right n d
  unfold red
  generalize (Int.gcd n d : Int) = g at *
  by_cases h : d < 0
  · rw [if_pos h, if_neg (show ¬ d > 0 by omega), Int.fdiv_eq_ediv_of_dvd (Int.neg_dvd.mpr d1), Int.fdiv_eq_ediv_of_dvd (Int.neg_dvd.mpr d2), Int.ediv_neg, Int.ediv_neg]
    rw [show (-1 : Int) * n = -n by omega, show (-1 : Int) * d = -d by omega, Int.neg_ediv_of_dvd d1, Int.neg_ediv_of_dvd d2]
  · rw [if_neg h, if_pos (show d > 0 by omega), Int.fdiv_eq_ediv_of_dvd d1, Int.fdiv_eq_ediv_of_dvd d2, Int.one_mul, Int.one_mul]
theorem red_congr {n d n' d' : Int} (hd : d ≠ 0) (hd' : d' ≠ 0) (h : n * d' = n' * d) : red n d = red n' d' := by
  refine red_unique hd (red_pos hd') (red_gcd hd') ?_
  have e := red_eq (n := n') hd'
  apply Int.eq_of_mul_eq_mul_right hd'
  calc (red n' d').1 * d * d' = ((red n' d').1 * d') * d := by grind
    _ = n' * d * (red n' d').2 := by rw [e]; grind
    _ = n * (red n' d').2 * d' := by rw [← h]; grind
/-! ### sums -/
abbrev QQ := Int × Int
def Low (a : QQ) : Prop := 0 < a.2 ∧ Int.gcd a.1 a.2 = 1
def radd (a b : QQ) : QQ := red (a.1 * b.2 + b.1 * a.2) (a.2 * b.2)
theorem pos_ne {a b : Int} (ha : 0 < a) (hb : 0 < b) : a * b ≠ 0 := Int.ne_of_gt (Int.mul_pos ha hb)
theorem low_red {n d : Int} (hd : d ≠ 0) : Low (red n d) := ⟨red_pos hd, red_gcd hd⟩
theorem low_add {a b : QQ} (ha : Low a) (hb : Low b) : Low (radd a b) := low_red (pos_ne ha.1 hb.1)
theorem radd_eq {a b : QQ} (ha : Low a) (hb : Low b) : (radd a b).1 * (a.2 * b.2) = (a.1 * b.2 + b.1 * a.2) * (radd a b).2 := red_eq (pos_ne ha.1 hb.1)
theorem radd_assoc {a b c : QQ} (ha : Low a) (hb : Low b) (hc : Low c) : radd (radd a b) c = radd a (radd b c) := by
  have lab := low_add ha hb
  have lbc := low_add hb hc
  have e1 := radd_eq ha hb
  have e2 := radd_eq hb hc
  show red _ _ = red _ _
  refine (red_congr (n' := a.1 * b.2 * c.2 + b.1 * a.2 * c.2 + c.1 * a.2 * b.2) (d' := a.2 * b.2 * c.2) (pos_ne lab.1 hc.1) (Int.ne_of_gt (Int.mul_pos (Int.mul_pos ha.1 hb.1) hc.1)) ?_).trans (red_congr (pos_ne ha.1 lbc.1) (Int.ne_of_gt (Int.mul_pos (Int.mul_pos ha.1 hb.1) hc.1)) ?_).symm
  · generalize radd a b = x at *
    grind
  · generalize radd b c = x at *
    grind
theorem radd_zero {b : QQ} (hb : Low b) : radd b (0, 1) = b := by
  show red (b.1 * 1 + 0 * b.2) (b.2 * 1) = b
  rw [show b.1 * 1 + 0 * b.2 = b.1 by omega, show b.2 * 1 = b.2 by omega]
  exact red_self hb.1 hb.2
theorem zero_radd {b : QQ} (hb : Low b) : radd (0, 1) b = b := by
  show red (0 * b.2 + b.1 * 1) (1 * b.2) = b
  rw [show 0 * b.2 + b.1 * 1 = b.1 by omega, show 1 * b.2 = b.2 by omega]
  exact red_self hb.1 hb.2
theorem low0 : Low (0, 1) := ⟨by decide, by decide⟩
theorem low_sum : ∀ {fs : List QQ} {s : QQ}, Low s → (∀ f ∈ fs, Low f) → Low (fs.foldl radd s)
  | [], _, h, _ => h
  | f :: fs, s, h, k => low_sum (fs := fs) (s := radd s f) (low_add h (k f List.mem_cons_self)) fun g hg => k g (List.mem_cons_of_mem _ hg)
theorem sum_from : ∀ {fs : List QQ} {s : QQ}, Low s → (∀ f ∈ fs, Low f) → fs.foldl radd s = radd s (fs.foldl radd (0, 1))
  | [], s, h, _ => (radd_zero h).symm
  | f :: fs, s, h, k => by
    have hf := k f List.mem_cons_self
    have kk : ∀ g ∈ fs, Low g := fun g hg => k g (List.mem_cons_of_mem _ hg)
    show fs.foldl radd (radd s f) = radd s (fs.foldl radd (radd (0, 1) f))
    rw [sum_from (low_add h hf) kk, zero_radd hf, sum_from hf kk, radd_assoc h hf (low_sum low0 kk)]
theorem add_bd {a b : QQ} {A B : Nat} (ha : 0 < a.2) (hb : 0 < b.2) (a1 : a.1.natAbs < 2 ^ A) (a2 : a.2.natAbs < 2 ^ A) (b1 : b.1.natAbs < 2 ^ B) (b2 : b.2.natAbs < 2 ^ B) : (radd a b).1.natAbs < 2 ^ (A + B + 1) ∧ (radd a b).2.natAbs < 2 ^ (A + B + 1) := by
  have hd : a.2 * b.2 ≠ 0 := pos_ne ha hb
  have m1 : (a.1 * b.2).natAbs < 2 ^ (A + B) := by rw [Int.natAbs_mul, Nat.pow_add]; exact Nat.mul_lt_mul'' a1 b2
  have m2 : (b.1 * a.2).natAbs < 2 ^ (A + B) := by rw [Int.natAbs_mul, Nat.pow_add, Nat.mul_comm]; exact Nat.mul_lt_mul'' a2 b1
  have m3 : (a.2 * b.2).natAbs < 2 ^ (A + B) := by rw [Int.natAbs_mul, Nat.pow_add]; exact Nat.mul_lt_mul'' a2 b2
  have e : (2 : Nat) ^ (A + B + 1) = 2 ^ (A + B) * 2 := Nat.pow_succ ..
  have n1 : (radd a b).1.natAbs ≤ (a.1 * b.2 + b.1 * a.2).natAbs := red_le1 hd
  have n2 : (radd a b).2.natAbs ≤ (a.2 * b.2).natAbs := red_le2 hd
  have n3 := Int.natAbs_add_le (a.1 * b.2) (b.1 * a.2)
  omega
/-! ### extremes -/
def rlt (a b : QQ) : Bool := decide (a.1 * b.2 < b.1 * a.2)
theorem rlt_same {a b : QQ} (ha : Low a) (hb : Low b) (h1 : rlt a b = false) (h2 : rlt b a = false) : a = b := by
  have e1 : ¬ a.1 * b.2 < b.1 * a.2 := of_decide_eq_false h1
  have e2 : ¬ b.1 * a.2 < a.1 * b.2 := of_decide_eq_false h2
  obtain ⟨x, y⟩ := low_unique ha.1 hb.1 ha.2 hb.2 (by omega)
  exact Prod.ext x y
theorem rlt_irr {a : QQ} : rlt a a = false := decide_eq_false (by omega)
theorem rlt_trans' {a b c : QQ} (ha : 0 < a.2) (hb : 0 < b.2) (hc : 0 < c.2) (h1 : rlt a b = true) (h2 : rlt c b = false) : rlt a c = true := by
  have e1 : a.1 * b.2 < b.1 * a.2 := of_decide_eq_true h1
  have e2 : ¬ c.1 * b.2 < b.1 * c.2 := of_decide_eq_false h2
  refine decide_eq_true ?_
  have k1 : a.1 * b.2 * c.2 < b.1 * a.2 * c.2 := Int.mul_lt_mul_of_pos_right e1 hc
  have k2 : b.1 * c.2 * a.2 ≤ c.1 * b.2 * a.2 := Int.mul_le_mul_of_nonneg_right (by omega) (by omega)
  have k3 : a.1 * c.2 * b.2 < c.1 * a.2 * b.2 := by
    have q1 : a.1 * c.2 * b.2 = a.1 * b.2 * c.2 := by grind
    have q2 : c.1 * a.2 * b.2 = c.1 * b.2 * a.2 := by grind
    have q3 : b.1 * a.2 * c.2 = b.1 * c.2 * a.2 := by grind
    omega
  exact Int.lt_of_mul_lt_mul_right k3 (by omega)

def Frs (K : PySem.W.Frag) (H : Hp) (xs : List V) (fs : List QQ) (B : Nat) : Prop := xs.length = fs.length ∧ ∀ (i : Nat) x f, xs[i]? = some x → fs[i]? = some f → FrB K H x f.1 f.2 B
theorem Frs.same {K : PySem.W.Frag} {H H' : Hp} {xs : List V} {fs : List QQ} {B : Nat} (h : Frs K H xs fs B) (s : Same H H') : Frs K H' xs fs B := ⟨h.1, fun i x f a b => (h.2 i x f a b).same s⟩
theorem Frs.kp {K : PySem.W.Frag} {H H' : Hp} {r : Addr} {xs : List V} {fs : List QQ} {B : Nat} (h : Frs K H xs fs B) (R : Rg H r) (k : Kp r H H') : Frs K H' xs fs B := ⟨h.1, fun i x f a b => (h.2 i x f a b).kp R k⟩
theorem Frs.low {K : PySem.W.Frag} {H : Hp} {xs : List V} {fs : List QQ} {B : Nat} (h : Frs K H xs fs B) : ∀ f ∈ fs, Low f := fun f hf => by
  obtain ⟨i, hi, e⟩ := List.getElem_of_mem hf
  have hx : xs[i]? = some (xs[i]'(by rw [h.1]; exact hi)) := List.getElem?_eq_getElem _
  have z := h.2 i _ f hx (by rw [List.getElem?_eq_getElem hi, e])
  exact ⟨z.d0, z.g⟩
theorem Frs.at {K : PySem.W.Frag} {H : Hp} {xs : List V} {fs : List QQ} {B : Nat} (h : Frs K H xs fs B) {i : Nat} {x : V} (hx : xs[i]? = some x) : ∃ f, fs[i]? = some f ∧ FrB K H x f.1 f.2 B := by
  have hi : i < fs.length := by rw [← h.1]; exact (List.getElem?_eq_some_iff.mp hx).1
  exact ⟨fs[i], List.getElem?_eq_getElem hi, h.2 i x _ hx (List.getElem?_eq_getElem hi)⟩
def Sq (K : PySem.W.Frag) (H : Hp) (p : Addr) (xs : List V) : Prop := SqL K H p xs ∨ SqT K H p xs
theorem Sq.same {K : PySem.W.Frag} {H H' : Hp} {p : Addr} {xs : List V} (h : Sq K H p xs) (s : Same H H') : Sq K H' p xs := h.elim (fun z => .inl (s.seq z)) fun z => .inr (Same.T s z)
theorem FrB.up' {K : PySem.W.Frag} {H : Hp} {v : V} {n d : Int} {B C : Nat} (f : FrB K H v n d B) (h : B ≤ C) : FrB K H v n d C := ⟨f.fr, f.d0, f.g, Nat.lt_of_lt_of_le f.nB (Nat.pow_le_pow_right (by decide) h), Nat.lt_of_lt_of_le f.dB (Nat.pow_le_pow_right (by decide) h)⟩
theorem FrB.low {K : PySem.W.Frag} {H : Hp} {v : V} {f : QQ} {B : Nat} (h : FrB K H v f.1 f.2 B) : Low f := ⟨h.d0, h.g⟩
theorem FrB.add {K : PySem.W.Frag} {H : Hp} {v1 v2 : V} {a b : QQ} {A B : Nat} {p : Addr} (ha : FrB K H v1 a.1 a.2 A) (hb : FrB K H v2 b.1 b.2 B) : FrB K (upd H p (.tup [.int (radd a b).1, .int (radd a b).2])) (.ref p) (radd a b).1 (radd a b).2 (A + B + 1) := by
  have l := low_add ha.low hb.low
  have bd := add_bd ha.d0 hb.d0 ha.nB ha.dB hb.nB hb.dB
  exact ⟨Fr.new, l.1, l.2, bd.1, bd.2⟩
theorem mulW {a b : Int} {A : Nat} (ha : a.natAbs < 2 ^ A) (hb : b.natAbs < 2 ^ A) (h0 : 0 < A) (h1 : A ≤ 500000) : CMulW a b := wide_mul ha hb h0 h0 (by omega)
def spAdd (K : PySem.W.Frag) : Sp := fun vs H Q _ => ∃ (v1 v2 : V) (a b : QQ), vs = [v1, v2] ∧ FrB K H v1 a.1 a.2 3000 ∧ FrB K H v2 b.1 b.2 3000 ∧ ∀ p, H p = none → Q (.ref p) (upd H p (.tup [.int (radd a b).1, .int (radd a b).2]))
def spLess (K : PySem.W.Frag) : Sp := fun vs H Q _ => ∃ (v1 v2 : V) (a b : QQ), vs = [v1, v2] ∧ FrB K H v1 a.1 a.2 20000 ∧ FrB K H v2 b.1 b.2 20000 ∧ Q (.bl (rlt a b)) H
/-- the first place of the best by lt -/
def Fst (lt : QQ → QQ → Bool) (fs : List QQ) (j : Nat) : Prop := ∃ f, fs[j]? = some f ∧ (∀ (i : Nat) g, fs[i]? = some g → lt f g = false) ∧ ∀ (i : Nat) g, i < j → fs[i]? = some g → lt g f = true
abbrev FstMax (fs : List QQ) (j : Nat) : Prop := Fst rlt fs j
abbrev FstMin (fs : List QQ) (j : Nat) : Prop := Fst (fun a b => rlt b a) fs j
theorem rlt_asym {a b : QQ} (h : rlt a b = true) : rlt b a = false := by
  have e : a.1 * b.2 < b.1 * a.2 := of_decide_eq_true h
  exact decide_eq_false (by omega)
theorem rlt_le_lt {a b c : QQ} (ha : 0 < a.2) (hb : 0 < b.2) (hc : 0 < c.2) (h1 : rlt b a = false) (h2 : rlt b c = true) : rlt a c = true := by
  have e1 : ¬ b.1 * a.2 < a.1 * b.2 := of_decide_eq_false h1
  have e2 : b.1 * c.2 < c.1 * b.2 := of_decide_eq_true h2
  refine decide_eq_true ?_
  have k1 : b.1 * c.2 * a.2 < c.1 * b.2 * a.2 := Int.mul_lt_mul_of_pos_right e2 ha
  have k2 : a.1 * b.2 * c.2 ≤ b.1 * a.2 * c.2 := Int.mul_le_mul_of_nonneg_right (by omega) (by omega)
  have k3 : a.1 * c.2 * b.2 < c.1 * a.2 * b.2 := by
    have q1 : a.1 * c.2 * b.2 = a.1 * b.2 * c.2 := by grind
    have q2 : c.1 * a.2 * b.2 = c.1 * b.2 * a.2 := by grind
    have q3 : b.1 * a.2 * c.2 = b.1 * c.2 * a.2 := by grind
    omega
  exact Int.lt_of_mul_lt_mul_right k3 (by omega)
structure Ord (lt : QQ → QQ → Bool) : Prop where
  irr : ∀ a, lt a a = false
  lelt : ∀ a b c : QQ, 0 < a.2 → 0 < b.2 → 0 < c.2 → lt b a = false → lt b c = true → lt a c = true
  asym : ∀ a b, lt a b = true → lt b a = false
theorem ordMax : Ord rlt := ⟨fun _ => rlt_irr, fun _ _ _ ha hb hc h1 h2 => rlt_le_lt ha hb hc h1 h2, fun _ _ h => rlt_asym h⟩
theorem ordMin : Ord (fun a b => rlt b a) := ⟨fun _ => rlt_irr, fun _ _ _ ha hb hc h1 h2 => rlt_trans' hc hb ha h2 h1, fun _ _ h => rlt_asym h⟩
/-- between two turns: best so far among the first i -/
def Bst (lt : QQ → QQ → Bool) (fs : List QQ) (i j : Nat) : Prop := ∃ f, fs[j]? = some f ∧ (∀ (m : Nat) g, m < i → fs[m]? = some g → lt f g = false) ∧ ∀ (m : Nat) g, m < j → fs[m]? = some g → lt g f = true
theorem Bst.start {lt : QQ → QQ → Bool} {fs : List QQ} (h : 0 < fs.length) : Bst lt fs 0 0 := ⟨fs[0], List.getElem?_eq_getElem h, fun m g hm => absurd hm (by omega), fun m g hm => absurd hm (by omega)⟩
theorem Bst.keep {lt : QQ → QQ → Bool} {fs : List QQ} {i j : Nat} {f g : QQ} (b : Bst lt fs i j) (hf : fs[j]? = some f) (hg : fs[i]? = some g) (h : lt f g = false) : Bst lt fs (i + 1) j := by
  obtain ⟨f', e, k1, k2⟩ := b
  rw [hf] at e; cases e
  refine ⟨f, hf, fun m x hm hx => ?_, k2⟩
  by_cases z : m = i
  · subst z; rw [hg] at hx; cases hx; exact h
  · exact k1 m x (by omega) hx
theorem Bst.take {lt : QQ → QQ → Bool} {fs : List QQ} {i j : Nat} {f g : QQ} (O : Ord lt) (lo : ∀ f ∈ fs, Low f) (b : Bst lt fs i j) (hf : fs[j]? = some f) (hg : fs[i]? = some g) (h : lt f g = true) : Bst lt fs (i + 1) i := by
  obtain ⟨f', e, k1, k2⟩ := b
  rw [hf] at e; cases e
  have pf := (lo f (List.mem_of_getElem? hf)).1
  have pg := (lo g (List.mem_of_getElem? hg)).1
  have up : ∀ (m : Nat) x, m < i → fs[m]? = some x → lt x g = true := fun m x hm hx => O.lelt x f g (lo x (List.mem_of_getElem? hx)).1 pf pg (k1 m x hm hx) h
  refine ⟨g, hg, fun m x hm hx => ?_, up⟩
  by_cases z : m = i
  · subst z; rw [hg] at hx; cases hx; exact O.irr g
  · exact O.asym _ _ (up m x (by omega) hx)
theorem Bst.fst {lt : QQ → QQ → Bool} {fs : List QQ} {j : Nat} (b : Bst lt fs fs.length j) : Fst lt fs j := by
  obtain ⟨f, e, k1, k2⟩ := b
  exact ⟨f, e, fun m g hg => k1 m g (List.getElem?_eq_some_iff.mp hg).1 hg, k2⟩
theorem Bst.lt {lt : QQ → QQ → Bool} {fs : List QQ} {i j : Nat} (b : Bst lt fs i j) : j < fs.length := by
  obtain ⟨f, e, _⟩ := b
  exact (List.getElem?_eq_some_iff.mp e).1
theorem Frs.nil' {K : PySem.W.Frag} {H : Hp} {B : Nat} : Frs K H [] [] B := ⟨rfl, fun i x f h => by cases h⟩
theorem Frs.cons' {K : PySem.W.Frag} {H : Hp} {B : Nat} {x : V} {f : QQ} {xs : List V} {fs : List QQ} (h : FrB K H x f.1 f.2 B) (t : Frs K H xs fs B) : Frs K H (x :: xs) (f :: fs) B :=
  ⟨by rw [List.length_cons, List.length_cons, t.1], fun i y g a b => by
    cases i with
    | zero => cases a; cases b; exact h
    | succ i => exact t.2 i y g a b⟩
theorem Frs.uncons' {K : PySem.W.Frag} {H : Hp} {B : Nat} {x : V} {f : QQ} {xs : List V} {fs : List QQ} (t : Frs K H (x :: xs) (f :: fs) B) : FrB K H x f.1 f.2 B ∧ Frs K H xs fs B :=
  ⟨t.2 0 x f rfl rfl, by have := t.1; simpa using this, fun i y g a b => t.2 (i + 1) y g a b⟩
theorem Frs.app' {K : PySem.W.Frag} {H : Hp} {B : Nat} : ∀ {xs : List V} {fs : List QQ} {ys : List V} {gs : List QQ}, Frs K H xs fs B → Frs K H ys gs B → Frs K H (xs ++ ys) (fs ++ gs) B
  | [], [], _, _, _, b => b
  | [], _ :: _, _, _, a, _ => by have := a.1; cases this
  | _ :: _, [], _, _, a, _ => by have := a.1; cases this
  | x :: xs, f :: fs, ys, gs, a, b => Frs.cons' a.uncons'.1 (Frs.app' a.uncons'.2 b)
theorem FrB.put' {K : PySem.W.Frag} {H : Hp} {v : V} {n d : Int} {B : Nat} {D : Addr} {l l' : List V} (f : FrB K H v n d B) (hD : H D = some (.lst l)) : FrB K (upd H D (.lst l')) v n d B := by
  refine ⟨?_, f.d0, f.g, f.nB, f.dB⟩
  obtain ⟨p, rfl, h⟩ := f.fr
  refine ⟨p, rfl, ?_⟩
  rcases h with (h | ⟨o, h⟩) | h
  · exact .inl (.inl (by rw [upd_ne (ne_of h hD (fun z => by cases z))]; exact h))
  · exact .inl (.inr ⟨o, by rw [upd_ne (ne_of h hD (fun z => by cases z))]; exact h⟩)
  · exact .inr h
theorem Frs.put' {K : PySem.W.Frag} {H : Hp} {B : Nat} {D : Addr} {l l' : List V} {xs : List V} {fs : List QQ} (f : Frs K H xs fs B) (hD : H D = some (.lst l)) : Frs K (upd H D (.lst l')) xs fs B := ⟨f.1, fun i x g a b => (f.2 i x g a b).put' hD⟩
theorem Frs.one' {K : PySem.W.Frag} {H : Hp} {B : Nat} {x : V} {f : QQ} (h : FrB K H x f.1 f.2 B) : Frs K H [x] [f] B := Frs.cons' h Frs.nil'
def spSub (K : PySem.W.Frag) : Sp := fun vs H Q _ => ∃ (v1 v2 : V) (x y : QQ), vs = [v1, v2] ∧ FrB K H v1 x.1 x.2 3000 ∧ FrB K H v2 y.1 y.2 3000 ∧ ∀ r, H r = none → Q (.ref r) (upd H r (.tup [.int (red (x.1 * y.2 - y.1 * x.2) (x.2 * y.2)).1, .int (red (x.1 * y.2 - y.1 * x.2) (x.2 * y.2)).2]))
def spMul (K : PySem.W.Frag) : Sp := fun vs H Q _ => ∃ (v1 v2 : V) (x y : QQ), vs = [v1, v2] ∧ FrB K H v1 x.1 x.2 3000 ∧ FrB K H v2 y.1 y.2 3000 ∧ ∀ r, H r = none → Q (.ref r) (upd H r (.tup [.int (red (x.1 * y.1) (x.2 * y.2)).1, .int (red (x.1 * y.1) (x.2 * y.2)).2]))
def spDiv (K : PySem.W.Frag) : Sp := fun vs H Q _ => ∃ (v1 v2 : V) (x y : QQ), vs = [v1, v2] ∧ FrB K H v1 x.1 x.2 3000 ∧ FrB K H v2 y.1 y.2 3000 ∧ y.1 ≠ 0 ∧ ∀ r, H r = none → Q (.ref r) (upd H r (.tup [.int (red (x.1 * y.2) (x.2 * y.1)).1, .int (red (x.1 * y.2) (x.2 * y.1)).2]))
theorem ne_mul {i j : Int} (h : 0 < i) (k : j ≠ 0) : i * j ≠ 0 := fun z => by
  rcases Int.mul_eq_zero.mp z with z | z
  · omega
  · exact k z
/-! ### terms -/
inductive Kd where
  | delay (f : QQ) | max | min | median | mix (ws : List QQ)
inductive Tm where
  | ev (n : Str) : Tm
  | nd (k : Kd) (ts : List Tm) : Tm
def Tm.subs : Tm → List Tm
  | .ev _ => []
  | .nd _ ts => ts
mutual
def Tm.size : Tm → Nat
  | .ev _ => 1
  | .nd _ ts => 1 + Tm.sizes ts
def Tm.sizes : List Tm → Nat
  | [] => 0
  | t :: ts => t.size + Tm.sizes ts
end
mutual
def Tm.depth : Tm → Nat
  | .ev _ => 1
  | .nd _ ts => 1 + Tm.depths ts
def Tm.depths : List Tm → Nat
  | [] => 0
  | t :: ts => Nat.max t.depth (Tm.depths ts)
end
mutual
def Tm.flat : Tm → List Str
  | .ev s => [s]
  | .nd _ ts => Tm.flats ts
def Tm.flats : List Tm → List Str
  | [] => []
  | t :: ts => t.flat ++ Tm.flats ts
end
theorem Tm.size_eq (t : Tm) : t.size = 1 + Tm.sizes t.subs := by cases t <;> simp [Tm.size, Tm.subs, Tm.sizes]
theorem Tm.sizes_eq : ∀ ts : List Tm, Tm.sizes ts = (ts.map Tm.size).sum
  | [] => by simp [Tm.sizes]
  | t :: ts => by rw [Tm.sizes, Tm.sizes_eq ts, List.map_cons, List.sum_cons]
def All2 (R : V → Tm → Prop) (xs : List V) (ts : List Tm) : Prop := xs.length = ts.length ∧ ∀ (i : Nat) x t, xs[i]? = some x → ts[i]? = some t → R x t
theorem All2.mono {R S : V → Tm → Prop} {xs : List V} {ts : List Tm} (h : All2 R xs ts) (k : ∀ x t, R x t → S x t) : All2 S xs ts := ⟨h.1, fun i x t a b => k x t (h.2 i x t a b)⟩
theorem All2.nil {R : V → Tm → Prop} : All2 R [] [] := ⟨rfl, fun i x t h => by cases h⟩
theorem All2.snoc {R : V → Tm → Prop} {xs : List V} {ts : List Tm} {x : V} {t : Tm} (h : All2 R xs ts) (k : R x t) : All2 R (xs ++ [x]) (ts ++ [t]) := by
  refine ⟨by rw [List.length_append, List.length_append, h.1]; rfl, fun i y u a b => ?_⟩
  by_cases hi : i < xs.length
  · rw [List.getElem?_append_left hi] at a
    rw [List.getElem?_append_left (by rw [← h.1]; exact hi)] at b
    exact h.2 i y u a b
  · have e : i = xs.length := by
      have := (List.getElem?_eq_some_iff.mp a).1
      rw [List.length_append] at this
      have : i < xs.length + 1 := this
      omega
    subst e
    rw [List.getElem?_append_right (Nat.le_refl _), Nat.sub_self] at a
    rw [h.1, List.getElem?_append_right (Nat.le_refl _), Nat.sub_self] at b
    cases a; cases b
    exact k
theorem All2.one {R : V → Tm → Prop} {x : V} {t : Tm} (k : R x t) : All2 R [x] [t] := All2.nil.snoc k
theorem All2.at {R : V → Tm → Prop} {xs : List V} {ts : List Tm} (h : All2 R xs ts) {i : Nat} {x : V} (hx : xs[i]? = some x) : ∃ t, ts[i]? = some t ∧ R x t := by
  have l : i < ts.length := by rw [← h.1]; exact (List.getElem?_eq_some_iff.mp hx).1
  exact ⟨ts[i], List.getElem?_eq_getElem l, h.2 i x _ hx (List.getElem?_eq_getElem l)⟩
def kdS : Kd → Str
  | .delay _ => "delay" | .max => "max" | .min => "min" | .median => "median" | .mix _ => "mix"
/-- a tuple that stands for a term of the kind k over the values xs -/
def Node (K : PySem.W.Frag) (H : Hp) (v : V) : Kd → List V → Prop
  | .delay f, xs => ∃ p x fv, xs = [x] ∧ v = .ref p ∧ SqT K H p [.str "delay", x, fv] ∧ FrB K H fv f.1 f.2 40
  | .max, xs => ∃ p, v = .ref p ∧ SqT K H p (.str "max" :: xs)
  | .min, xs => ∃ p, v = .ref p ∧ SqT K H p (.str "min" :: xs)
  | .median, xs => ∃ p, v = .ref p ∧ SqT K H p (.str "median" :: xs)
  | .mix ws, xs => ∃ p ys, v = .ref p ∧ SqT K H p (.str "mix" :: ys) ∧ ys.length = xs.length ∧ ws.length = xs.length ∧ ∀ (i : Nat) y x f, ys[i]? = some y → xs[i]? = some x → ws[i]? = some f → ∃ q wv, y = .ref q ∧ SqT K H q [wv, x] ∧ FrB K H wv f.1 f.2 40
def TmAt (K : PySem.W.Frag) (H : Hp) : Nat → V → Tm → Prop
  | 0, _, _ => False
  | _ + 1, v, .ev s => ∃ p, v = .ref p ∧ SqT K H p [.str "event", .str s]
  | n + 1, v, .nd k ts => ∃ xs, Node K H v k xs ∧ All2 (TmAt K H n) xs ts
section
variable {K : PySem.W.Frag} {H H' : Hp}
theorem Node.imp (sT : ∀ p xs, SqT K H p xs → SqT K H' p xs) {v : V} {k : Kd} {xs : List V} (h : Node K H v k xs) : Node K H' v k xs := by
  have fb : ∀ {v n d B}, FrB K H v n d B → FrB K H' v n d B := fun f => ⟨by obtain ⟨p, e, z⟩ := f.fr; exact ⟨p, e, sT _ _ z⟩, f.d0, f.g, f.nB, f.dB⟩
  cases k with
  | delay f => obtain ⟨p, x, fv, e1, e2, h1, h2⟩ := h; exact ⟨p, x, fv, e1, e2, sT _ _ h1, fb h2⟩
  | max => obtain ⟨p, e, h1⟩ := h; exact ⟨p, e, sT _ _ h1⟩
  | min => obtain ⟨p, e, h1⟩ := h; exact ⟨p, e, sT _ _ h1⟩
  | median => obtain ⟨p, e, h1⟩ := h; exact ⟨p, e, sT _ _ h1⟩
  | mix ws =>
    obtain ⟨p, ys, e, h1, l1, l2, h2⟩ := h
    refine ⟨p, ys, e, sT _ _ h1, l1, l2, fun i y x f a b c => ?_⟩
    obtain ⟨q, wv, e', h3, h4⟩ := h2 i y x f a b c
    exact ⟨q, wv, e', sT _ _ h3, fb h4⟩
theorem TmAt.imp (sT : ∀ p xs, SqT K H p xs → SqT K H' p xs) : ∀ {n : Nat} {v : V} {t : Tm}, TmAt K H n v t → TmAt K H' n v t
  | 0, _, _, h => h
  | n + 1, v, .ev s, h => by obtain ⟨p, e, z⟩ := h; exact ⟨p, e, sT _ _ z⟩
  | n + 1, v, .nd k ts, h => by
    obtain ⟨xs, h1, h2⟩ := h
    exact ⟨xs, h1.imp sT, h2.mono fun x t z => TmAt.imp sT z⟩
theorem TmAt.same (s : Same H H') {n : Nat} {v : V} {t : Tm} (h : TmAt K H n v t) : TmAt K H' n v t := h.imp fun _ _ z => Same.T s z
theorem TmAt.kp {r : Addr} (R : Rg H r) (k : Kp r H H') {n : Nat} {v : V} {t : Tm} (h : TmAt K H n v t) : TmAt K H' n v t := h.imp fun _ _ z => RgT R k z
theorem TmAt.put {D : Addr} {l l' : List V} (hD : H D = some (.lst l)) {n : Nat} {v : V} {t : Tm} (h : TmAt K H n v t) : TmAt K (upd H D (.lst l')) n v t := h.imp fun p xs z => by
  rcases z with (z | ⟨o, z⟩) | z
  · exact .inl (.inl (by rw [upd_ne (ne_of z hD (fun y => by cases y))]; exact z))
  · exact .inl (.inr ⟨o, by rw [upd_ne (ne_of z hD (fun y => by cases y))]; exact z⟩)
  · exact .inr z
theorem TmAt.up : ∀ {n : Nat} {v : V} {t : Tm}, TmAt K H n v t → TmAt K H (n + 1) v t
  | 0, _, _, h => h.elim
  | n + 1, v, .ev s, h => h
  | n + 1, v, .nd k ts, h => by
    obtain ⟨xs, h1, h2⟩ := h
    exact ⟨xs, h1, h2.mono fun x t z => TmAt.up z⟩
theorem TmAt.le {n m : Nat} (l : n ≤ m) {v : V} {t : Tm} (h : TmAt K H n v t) : TmAt K H m v t := by
  induction l with
  | refl => exact h
  | step _ ih => exact ih.up
end
/-- what the law's terms have: names of the list, few operands, shares -/
def ShW (ws : List QQ) : Prop := ∃ is : List Int, (∀ i ∈ is, 1 ≤ i ∧ i ≤ 4) ∧ is.length ≤ 6 ∧ ws = is.map fun i => red i is.sum
/-- a small delay -/
def DlS (f : QQ) : Prop := f.1.natAbs < 32 ∧ 0 < f.2 ∧ f.2 < 32 ∧ Int.gcd f.1 f.2 = 1
theorem FrB.dls {K : PySem.W.Frag} {H : Hp} {v : V} {n d : Int} (h : FrB K H v n d 5) : DlS (n, d) := ⟨h.nB, h.d0, by have h1 := h.d0; have h2 : d.natAbs < 32 := h.dB; show d < 32; omega, h.g⟩
def KdOk : Kd → Nat → Prop
  | .delay f, m => m = 1 ∧ DlS f
  | .max, m => 1 ≤ m ∧ m ≤ 3
  | .min, m => 1 ≤ m ∧ m ≤ 3
  | .median, m => m = 3
  | .mix ws, m => 1 ≤ m ∧ m ≤ 3 ∧ ws.length = m ∧ ShW ws
def Good (ss : List Str) : Nat → Tm → Prop
  | 0, _ => False
  | _ + 1, .ev s => s ∈ ss
  | n + 1, .nd k ts => KdOk k ts.length ∧ ∀ t ∈ ts, Good ss n t
/-- the same, up to six operands -/
def KdW : Kd → Nat → Prop
  | .delay f, m => m = 1 ∧ DlS f
  | .max, m => 1 ≤ m ∧ m ≤ 6
  | .min, m => 1 ≤ m ∧ m ≤ 6
  | .median, m => m = 3
  | .mix ws, m => (1 ≤ m ∧ m ≤ 6) ∧ ws.length = m ∧ ShW ws
def WT (ss : List Str) : Nat → Tm → Prop
  | 0, _ => False
  | _ + 1, .ev s => s ∈ ss
  | n + 1, .nd k ts => KdW k ts.length ∧ ∀ t ∈ ts, WT ss n t
theorem KdOk.w {k : Kd} {m : Nat} (h : KdOk k m) : KdW k m := by
  cases k with
  | delay f => exact h
  | max => exact ⟨h.1, by have := h.2; omega⟩
  | min => exact ⟨h.1, by have := h.2; omega⟩
  | median => exact h
  | mix ws => exact ⟨⟨h.1, by have := h.2.1; omega⟩, h.2.2⟩
theorem Good.wt {ss : List Str} : ∀ {n : Nat} {t : Tm}, Good ss n t → WT ss n t
  | 0, _, h => h
  | n + 1, .ev s, h => h
  | n + 1, .nd k ts, h => ⟨h.1.w, fun t ht => (h.2 t ht).wt⟩
theorem WT.up {ss : List Str} : ∀ {n : Nat} {t : Tm}, WT ss n t → WT ss (n + 1) t
  | 0, _, h => h.elim
  | n + 1, .ev s, h => h
  | n + 1, .nd k ts, h => ⟨h.1, fun t ht => (h.2 t ht).up⟩
theorem WT.le {ss : List Str} {n m : Nat} (l : n ≤ m) {t : Tm} (h : WT ss n t) : WT ss m t := by
  induction l with
  | refl => exact h
  | step _ ih => exact ih.up
def szB : Nat → Nat
  | 0 => 0
  | n + 1 => 1 + 3 * szB n
theorem Good.up {ss : List Str} : ∀ {n : Nat} {t : Tm}, Good ss n t → Good ss (n + 1) t
  | 0, _, h => h.elim
  | n + 1, .ev s, h => h
  | n + 1, .nd k ts, h => ⟨h.1, fun t ht => (h.2 t ht).up⟩
theorem Good.le {ss : List Str} {n m : Nat} (l : n ≤ m) {t : Tm} (h : Good ss n t) : Good ss m t := by
  induction l with
  | refl => exact h
  | step _ ih => exact ih.up
theorem KdOk.three {k : Kd} {m : Nat} (h : KdOk k m) : m ≤ 3 := by
  cases k with
  | delay f => have : m = 1 := h.1; omega
  | max => exact h.2
  | min => exact h.2
  | median => exact Nat.le_of_eq h
  | mix ws => exact h.2.1
theorem sizes_le {B : Nat} : ∀ {ts : List Tm}, (∀ t ∈ ts, t.size ≤ B) → Tm.sizes ts ≤ ts.length * B
  | [], _ => by simp [Tm.sizes]
  | t :: ts, h => by
    rw [Tm.sizes, List.length_cons, Nat.add_mul, Nat.one_mul]
    have h1 := h t List.mem_cons_self
    have h2 := sizes_le (B := B) (ts := ts) fun u hu => h u (List.mem_cons_of_mem _ hu)
    omega
theorem Good.size {ss : List Str} : ∀ {n : Nat} {t : Tm}, Good ss n t → t.size ≤ szB n
  | 0, _, h => h.elim
  | n + 1, .ev s, _ => by simp [Tm.size, szB]
  | n + 1, .nd k ts, h => by
    have h1 := sizes_le (B := szB n) fun t ht => (h.2 t ht).size
    have h2 := Nat.mul_le_mul_right (szB n) h.1.three
    rw [Tm.size, szB]
    omega
theorem Tm.depth_eq (t : Tm) : t.depth = 1 + Tm.depths t.subs := by cases t <;> simp [Tm.depth, Tm.subs, Tm.depths]
theorem depths_ge : ∀ {ts : List Tm} {u : Tm}, u ∈ ts → u.depth ≤ Tm.depths ts
  | t :: ts, u, h => by
    rw [Tm.depths]
    rcases List.mem_cons.mp h with z | z
    · rw [z]; exact Nat.le_max_left _ _
    · exact Nat.le_trans (depths_ge z) (Nat.le_max_right _ _)
theorem depths_in : ∀ {ts : List Tm}, ts ≠ [] → ∃ u ∈ ts, Tm.depths ts = u.depth
  | [], h => absurd rfl h
  | t :: ts, _ => by
    rw [Tm.depths]
    by_cases q : ts = []
    · subst q
      exact ⟨t, List.mem_cons_self, by rw [Tm.depths]; exact Nat.max_eq_left (Nat.zero_le _)⟩
    · obtain ⟨u, hu, e⟩ := depths_in q
      by_cases c : Tm.depths ts ≤ t.depth
      · exact ⟨t, List.mem_cons_self, Nat.max_eq_left c⟩
      · exact ⟨u, List.mem_cons_of_mem _ hu, by rw [← e]; exact Nat.max_eq_right (by omega)⟩
theorem depths_max {ts : List Tm} {m : Int} (hm : m ∈ ts.map (fun u => (u.depth : Int))) (hk : ∀ k ∈ ts.map (fun u => (u.depth : Int)), k ≤ m) : (Tm.depths ts : Int) = m := by
  obtain ⟨u, hu, rfl⟩ := List.mem_map.mp hm
  have h1 := depths_ge hu
  obtain ⟨v, hv, e⟩ := depths_in (ts := ts) (fun z => by rw [z] at hu; cases hu)
  have h2 := hk _ (List.mem_map.mpr ⟨v, hv, rfl⟩)
  have h2' : (v.depth : Int) ≤ (u.depth : Int) := h2
  omega
def ArOk : Tm → Prop
  | .ev _ => True
  | .nd _ ts => 1 ≤ ts.length ∧ ts.length ≤ 60
theorem Good.ar {ss : List Str} {n : Nat} {t : Tm} (h : Good ss n t) : ArOk t := by
  cases n with
  | zero => exact h.elim
  | succ n =>
    cases t with
    | ev s => trivial
    | nd k ts =>
      have h3 := h.1.three
      refine ⟨?_, by omega⟩
      have hk := h.1
      cases k with
      | delay f => have : ts.length = 1 := hk.1; omega
      | max => exact hk.1
      | min => exact hk.1
      | median => have : ts.length = 3 := hk; omega
      | mix ws => exact hk.1
/-- the direct subterms, as a new list -/
def spSubs (K : PySem.W.Frag) : Sp := fun vs H Q _ => ∃ (v : V) (t : Tm) (n : Nat), vs = [v] ∧ TmAt K H (n + 1) v t ∧ ArOk t ∧ ∀ l H' xs, Same H H' → H l = none → H' l = some (.lst xs) → All2 (TmAt K H' n) xs t.subs → Q (.ref l) H'
theorem cut_one (x : V) (xs : List V) : cutV (x :: xs) (some 1) none = xs := by
  unfold cutV
  rw [show HT.sIx (x :: xs).length 0 (some 1) = min 1 (x :: xs).length from HT.sIx_nat (x :: xs).length 0 1, HT.sIx_none, List.length_cons, show min 1 (xs.length + 1) = 1 by omega]
  show List.take (xs.length + 1 - 1) xs = xs
  rw [Nat.add_sub_cancel, List.take_length]
theorem not_whole (x : V) (xs : List V) : ¬ (HT.sIx (x :: xs).length 0 (some 1) = 0 ∧ HT.sIx (x :: xs).length (x :: xs).length none = (x :: xs).length) := fun z => by
  have e : HT.sIx (x :: xs).length 0 (some 1) = min 1 (x :: xs).length := HT.sIx_nat (x :: xs).length 0 1
  rw [e, List.length_cons] at z
  have := z.1
  omega
theorem str_no {x y : Str} (h : decide (x = y) = false) : decide (V.str x = V.str y) = false := decide_eq_false fun z => of_decide_eq_false h (V.str.inj z)
/-- the pairs of a mix, walked: what is collected -/
theorem mix_at {K : PySem.W.Frag} {H : Hp} {ws : List QQ} {ys xs : List V} (l1 : ys.length = xs.length) (l2 : ws.length = xs.length) (h : ∀ (i : Nat) y x f, ys[i]? = some y → xs[i]? = some x → ws[i]? = some f → ∃ q wv, y = .ref q ∧ SqT K H q [wv, x] ∧ FrB K H wv f.1 f.2 40) {i : Nat} {y : V} (hy : ys[i]? = some y) :
    ∃ x q wv f, xs[i]? = some x ∧ ws[i]? = some f ∧ y = .ref q ∧ SqT K H q [wv, x] ∧ FrB K H wv f.1 f.2 40 := by
  have hi : i < ys.length := (List.getElem?_eq_some_iff.mp hy).1
  have a : xs[i]? = some (xs[i]'(by omega)) := List.getElem?_eq_getElem _
  have b : ws[i]? = some (ws[i]'(by omega)) := List.getElem?_eq_getElem _
  obtain ⟨q, wv, e, h1, h2⟩ := h i y _ _ hy a b
  exact ⟨_, q, wv, _, a, b, e, h1, h2⟩
def ArN : Nat → Tm → Prop
  | 0, _ => False
  | _ + 1, .ev _ => True
  | n + 1, .nd _ ts => (1 ≤ ts.length ∧ ts.length ≤ 60) ∧ ∀ t ∈ ts, ArN n t
theorem Good.arN {ss : List Str} : ∀ {n : Nat} {t : Tm}, Good ss n t → ArN n t
  | 0, _, h => h
  | n + 1, .ev s, h => trivial
  | n + 1, .nd k ts, h => ⟨Good.ar (n := n + 1) (t := .nd k ts) h, fun t ht => (h.2 t ht).arN⟩
theorem ArN.ok {n : Nat} {t : Tm} (h : ArN n t) : ArOk t := by
  cases n with
  | zero => exact h.elim
  | succ n => cases t with
    | ev s => trivial
    | nd k ts => exact h.1
theorem ArN.sub {n : Nat} {t u : Tm} (h : ArN (n + 1) t) (hu : u ∈ t.subs) : ArN n u := by
  cases t with
  | ev s => cases hu
  | nd k ts => exact h.2 u hu
theorem ArN.len {n : Nat} {t : Tm} (h : ArN n t) : t.subs.length ≤ 60 := by
  cases n with
  | zero => exact h.elim
  | succ n => cases t with
    | ev s => exact Nat.zero_le _
    | nd k ts => exact h.1.2
def spSize (K : PySem.W.Frag) : Nat → Sp
  | 0 => fun _ _ _ _ => False
  | n + 1 => fun vs H Q _ => ∃ (v : V) (t : Tm), vs = [v] ∧ TmAt K H (n + 1) v t ∧ ArN (n + 1) t ∧ ∀ H', Same H H' → Q (.int (t.size : Nat)) H'
def spDepth (K : PySem.W.Frag) : Nat → Sp
  | 0 => fun _ _ _ _ => False
  | n + 1 => fun vs H Q _ => ∃ (v : V) (t : Tm), vs = [v] ∧ TmAt K H (n + 1) v t ∧ ArN (n + 1) t ∧ ∀ H', Same H H' → Q (.int (t.depth : Nat)) H'
/-! ### names in order of first occurrence -/
def addS (acc : List Str) (s : Str) : List Str := if s ∈ acc then acc else acc ++ [s]
def ded (l : List Str) : List Str := l.foldl addS []
theorem add_mem {acc : List Str} {s x : Str} : x ∈ addS acc s ↔ x ∈ acc ∨ x = s := by
  unfold addS
  by_cases h : s ∈ acc
  · rw [if_pos h]
    exact ⟨.inl, fun z => z.elim id fun e => by rw [e]; exact h⟩
  · rw [if_neg h, List.mem_append, List.mem_singleton]
theorem fold_mem : ∀ {l acc : List Str} {x : Str}, x ∈ l.foldl addS acc ↔ x ∈ acc ∨ x ∈ l
  | [], acc, x => by simp
  | s :: l, acc, x => by
    rw [List.foldl_cons, fold_mem (l := l), add_mem, List.mem_cons]
    constructor
    · rintro ((h | h) | h)
      · exact .inl h
      · exact .inr (.inl h)
      · exact .inr (.inr h)
    · rintro (h | h | h)
      · exact .inl (.inl h)
      · exact .inl (.inr h)
      · exact .inr h
theorem add_old {acc : List Str} {s : Str} (h : s ∈ acc) : addS acc s = acc := if_pos h
theorem add_new {acc : List Str} {s : Str} (h : s ∉ acc) : addS acc s = acc ++ [s] := if_neg h
/-- folding the first occurrences in is folding all in -/
theorem fold_ded : ∀ (l m acc : List Str), (l.foldl addS m).foldl addS acc = l.foldl addS (m.foldl addS acc)
  | [], _, _ => rfl
  | s :: l, m, acc => by
    rw [List.foldl_cons, List.foldl_cons, fold_ded l (addS m s) acc]
    congr 1
    by_cases h : s ∈ m
    · rw [add_old h, add_old (fold_mem.mpr (.inr h))]
    · rw [add_new h, List.foldl_append]
      rfl
theorem ded_into (l acc : List Str) : (ded l).foldl addS acc = l.foldl addS acc := fold_ded l [] acc
theorem in_strs (s : Str) (acc : List Str) : inV (.str s) (acc.map V.str) = decide (s ∈ acc) := by
  unfold inV
  rw [List.any_map]
  by_cases h : s ∈ acc
  · rw [decide_eq_true h]
    exact List.any_eq_true.mpr ⟨s, h, by show (s == s) = true; simp⟩
  · rw [decide_eq_false h]
    refine Bool.eq_false_iff.mpr fun z => ?_
    obtain ⟨y, hy, e⟩ := List.any_eq_true.mp z
    have e' : (y == s) = true := e
    rw [beq_iff_eq] at e'
    exact h (e' ▸ hy)
theorem flat_strs (l : List Str) : (l.map V.str).all flatV = true := by
  rw [List.all_map]
  exact List.all_eq_true.mpr fun _ _ => rfl
theorem flats_take {ts : List Tm} {i : Nat} {u : Tm} (h : ts[i]? = some u) : Tm.flats (ts.take (i + 1)) = Tm.flats (ts.take i) ++ u.flat := by
  have app : ∀ a b : List Tm, Tm.flats (a ++ b) = Tm.flats a ++ Tm.flats b := by
    intro a b
    induction a with
    | nil => rfl
    | cons x a ih => rw [List.cons_append, Tm.flats, Tm.flats, ih, List.append_assoc]
  rw [List.take_add_one, h, app]
  show _ ++ Tm.flats [u] = _
  rw [Tm.flats, Tm.flats, List.append_nil]
theorem ded_app (a b : List Str) : ded (a ++ b) = b.foldl addS (ded a) := List.foldl_append ..
theorem ded_len : ∀ (l acc : List Str), (l.foldl addS acc).length ≤ acc.length + l.length
  | [], acc => Nat.le_refl _
  | s :: l, acc => by
    have h := ded_len l (addS acc s)
    have h2 : (addS acc s).length ≤ acc.length + 1 := by
      unfold addS
      split
      · omega
      · rw [List.length_append]; exact Nat.le_refl _
    rw [List.foldl_cons, List.length_cons]
    omega
def spNames (K : PySem.W.Frag) : Nat → Sp
  | 0 => fun _ _ _ _ => False
  | n + 1 => fun vs H Q _ => ∃ (v : V) (t : Tm), vs = [v] ∧ TmAt K H (n + 1) v t ∧ ArN (n + 1) t ∧ t.flat.length ≤ 1000 ∧ ∀ l H', Same H H' → H l = none → H' l = some (.lst ((ded t.flat).map V.str)) → Q (.ref l) H'
mutual
theorem flat_size : ∀ t : Tm, t.flat.length ≤ t.size
  | .ev s => by rw [Tm.flat, Tm.size]; exact Nat.le_refl _
  | .nd k ts => by
    rw [Tm.flat, Tm.size]
    have := flats_size ts
    omega
theorem flats_size : ∀ ts : List Tm, (Tm.flats ts).length ≤ Tm.sizes ts
  | [] => by rw [Tm.flats, Tm.sizes]; exact Nat.le_refl _
  | t :: ts => by
    rw [Tm.flats, Tm.sizes, List.length_append]
    have := flat_size t
    have := flats_size ts
    omega
end
/-! ### rationals -/
def toR (f : QQ) : Rat := Rat.divInt f.1 f.2
def ofR (q : Rat) : QQ := (q.num, (q.den : Int))
theorem low_ofR (q : Rat) : Low (ofR q) := by
  refine ⟨?_, ?_⟩
  · have := q.den_pos
    show (0 : Int) < (q.den : Int)
    omega
  · show Int.gcd q.num (q.den : Int) = 1
    have := q.reduced
    rw [Int.gcd_eq_natAbs_gcd_natAbs, Int.natAbs_natCast]
    exact this
theorem toR_ofR (q : Rat) : toR (ofR q) = q := Rat.num_divInt_den q
theorem red_R {n d : Int} (hd : d ≠ 0) : red n d = ofR (Rat.divInt n d) := by
  refine red_unique hd (low_ofR _).1 (low_ofR _).2 ?_
  show (Rat.divInt n d).num * d = n * ((Rat.divInt n d).den : Int)
  have h := Rat.num_divInt_den (Rat.divInt n d)
  have hz : ((Rat.divInt n d).den : Int) ≠ 0 := by have := (Rat.divInt n d).den_pos; omega
  exact (Rat.divInt_eq_divInt_iff hz hd).mp h
theorem ofR_toR {f : QQ} (h : Low f) : ofR (toR f) = f := by
  have e := red_R (n := f.1) (d := f.2) (by have := h.1; omega)
  rw [red_self h.1 h.2] at e
  exact e.symm
theorem den_ne (q : Rat) : (q.den : Int) ≠ 0 := by have := q.den_pos; omega
theorem radd_R (x y : Rat) : radd (ofR x) (ofR y) = ofR (x + y) := by
  show red (x.num * y.den + y.num * x.den) ((x.den : Int) * y.den) = _
  rw [red_R (Int.mul_ne_zero (den_ne x) (den_ne y)), ← Rat.divInt_add_divInt _ _ (den_ne x) (den_ne y), Rat.num_divInt_den, Rat.num_divInt_den]
theorem rsub_R (x y : Rat) : red (x.num * y.den - y.num * x.den) ((x.den : Int) * y.den) = ofR (x - y) := by
  rw [red_R (Int.mul_ne_zero (den_ne x) (den_ne y)), ← Rat.divInt_sub_divInt _ _ (den_ne x) (den_ne y), Rat.num_divInt_den, Rat.num_divInt_den]
theorem rmul_R (x y : Rat) : red (x.num * y.num) ((x.den : Int) * y.den) = ofR (x * y) := by
  rw [red_R (Int.mul_ne_zero (den_ne x) (den_ne y)), ← Rat.divInt_mul_divInt, Rat.num_divInt_den, Rat.num_divInt_den]
theorem rlt_R (x y : Rat) : rlt (ofR x) (ofR y) = decide (x < y) := by
  unfold rlt
  exact decide_eq_decide.mpr (Rat.lt_iff x y).symm
/-- the rational q, as a tuple, below 2 ^ B -/
def FR (K : PySem.W.Frag) (H : Hp) (v : V) (q : Rat) (B : Nat) : Prop := FrB K H v (ofR q).1 (ofR q).2 B
theorem FR.of {K : PySem.W.Frag} {H : Hp} {v : V} {f : QQ} {B : Nat} (h : FrB K H v f.1 f.2 B) : FR K H v (toR f) B := by
  have e := ofR_toR (f := f) ⟨h.d0, h.g⟩
  unfold FR
  rw [e]
  exact h
theorem FR.of' {K : PySem.W.Frag} {H : Hp} {v : V} {n d : Int} {B : Nat} (h : FrB K H v n d B) : FR K H v (toR (n, d)) B := FR.of (f := (n, d)) h
def Bt (q : Rat) (B : Nat) : Prop := (ofR q).1.natAbs < 2 ^ B ∧ (ofR q).2.natAbs < 2 ^ B
theorem FR.bt {K : PySem.W.Frag} {H : Hp} {v : V} {q : Rat} {B : Nat} (h : FR K H v q B) : Bt q B := ⟨h.nB, h.dB⟩
theorem Bt.up {q : Rat} {B C : Nat} (h : Bt q B) (l : B ≤ C) : Bt q C := ⟨Nat.lt_of_lt_of_le h.1 (Nat.pow_le_pow_right (by decide) l), Nat.lt_of_lt_of_le h.2 (Nat.pow_le_pow_right (by decide) l)⟩
theorem FR.mk {K : PySem.W.Frag} {H : Hp} {v : V} {q : Rat} {B : Nat} (f : Fr K H v (ofR q).1 (ofR q).2) (b : Bt q B) : FR K H v q B := ⟨f, (low_ofR q).1, (low_ofR q).2, b.1, b.2⟩
theorem FR.new {K : PySem.W.Frag} {H : Hp} {p : Addr} {q : Rat} {B : Nat} (b : Bt q B) : FR K (upd H p (.tup [.int (ofR q).1, .int (ofR q).2])) (.ref p) q B := FR.mk Fr.new b
theorem Bt.red {n d : Int} {B : Nat} (hd : d ≠ 0) (h1 : n.natAbs < 2 ^ B) (h2 : d.natAbs < 2 ^ B) : Bt (Rat.divInt n d) B := by
  have e := red_R (n := n) hd
  refine ⟨?_, ?_⟩
  · rw [← e]; exact Nat.lt_of_le_of_lt (red_le1 hd) h1
  · rw [← e]; exact Nat.lt_of_le_of_lt (red_le2 hd) h2
theorem Bt.add {x y : Rat} {A B : Nat} (hx : Bt x A) (hy : Bt y B) : Bt (x + y) (A + B + 1) := by
  have e : x + y = Rat.divInt (x.num * y.den + y.num * x.den) ((x.den : Int) * y.den) := by rw [← Rat.divInt_add_divInt _ _ (den_ne x) (den_ne y), Rat.num_divInt_den, Rat.num_divInt_den]
  rw [e]
  have h1 : x.num.natAbs < 2 ^ A := hx.1
  have h2 : (x.den : Int).natAbs < 2 ^ A := hx.2
  have h3 : y.num.natAbs < 2 ^ B := hy.1
  have h4 : (y.den : Int).natAbs < 2 ^ B := hy.2
  have m : ∀ {a b : Nat}, a < 2 ^ A → b < 2 ^ B → a * b < 2 ^ (A + B) := fun ha hb => by rw [Nat.pow_add]; exact Nat.mul_lt_mul'' ha hb
  refine Bt.red (Int.mul_ne_zero (den_ne x) (den_ne y)) ?_ ?_
  · have k1 : (x.num * (y.den : Int)).natAbs < 2 ^ (A + B) := by rw [Int.natAbs_mul]; exact m h1 h4
    have k2 : (y.num * (x.den : Int)).natAbs < 2 ^ (A + B) := by rw [Int.natAbs_mul, Nat.mul_comm]; exact m h2 h3
    rw [Nat.pow_succ]
    omega
  · have k : ((x.den : Int) * (y.den : Int)).natAbs < 2 ^ (A + B) := by rw [Int.natAbs_mul]; exact m h2 h4
    rw [Nat.pow_succ]
    omega
theorem Bt.mul {x y : Rat} {A B : Nat} (hx : Bt x A) (hy : Bt y B) : Bt (x * y) (A + B) := by
  have e : x * y = Rat.divInt (x.num * y.num) ((x.den : Int) * y.den) := by rw [← Rat.divInt_mul_divInt, Rat.num_divInt_den, Rat.num_divInt_den]
  rw [e]
  have m : ∀ {a b : Nat}, a < 2 ^ A → b < 2 ^ B → a * b < 2 ^ (A + B) := fun ha hb => by rw [Nat.pow_add]; exact Nat.mul_lt_mul'' ha hb
  refine Bt.red (Int.mul_ne_zero (den_ne x) (den_ne y)) ?_ ?_
  · rw [Int.natAbs_mul]; exact m hx.1 hy.1
  · rw [Int.natAbs_mul]; exact m hx.2 hy.2
theorem Bt.neg {x : Rat} {A : Nat} (hx : Bt x A) : Bt (-x) A := by
  refine ⟨?_, ?_⟩
  · show ((-x).num).natAbs < 2 ^ A
    rw [Rat.neg_num, Int.natAbs_neg]; exact hx.1
  · show ((-x).den : Int).natAbs < 2 ^ A
    rw [Rat.neg_den]; exact hx.2
theorem Bt.sub {x y : Rat} {A B : Nat} (hx : Bt x A) (hy : Bt y B) : Bt (x - y) (A + B + 1) := by
  rw [Rat.sub_eq_add_neg]
  exact hx.add hy.neg
theorem bt0 {B : Nat} : Bt 0 (B + 1) := by
  have : (2 : Nat) ≤ 2 ^ (B + 1) := Nat.le_trans (by decide) (Nat.pow_le_pow_right (by decide) (show 1 ≤ B + 1 by omega))
  exact ⟨by show (0 : Nat) < _; omega, by show (1 : Nat) < _; omega⟩
/-- what is called with a rational -/
theorem FR.up {K : PySem.W.Frag} {H : Hp} {v : V} {q : Rat} {B C : Nat} (f : FR K H v q B) (h : B ≤ C) : FR K H v q C := FR.mk f.fr (f.bt.up h)
theorem FR.same {K : PySem.W.Frag} {H H' : Hp} {v : V} {q : Rat} {B : Nat} (f : FR K H v q B) (k : Same H H') : FR K H' v q B := FrB.same f k
theorem FR.kp {K : PySem.W.Frag} {H H' : Hp} {r : Addr} {v : V} {q : Rat} {B : Nat} (f : FR K H v q B) (R : Rg H r) (k : Kp r H H') : FR K H' v q B := FrB.kp f R k
theorem FR.put {K : PySem.W.Frag} {H : Hp} {v : V} {q : Rat} {B : Nat} {D : Addr} {l l' : List V} (f : FR K H v q B) (hD : H D = some (.lst l)) : FR K (upd H D (.lst l')) v q B := FrB.put' f hD
/-- a list of rationals -/
def FRs (K : PySem.W.Frag) (H : Hp) (xs : List V) (qs : List Rat) (B : Nat) : Prop := Frs K H xs (qs.map ofR) B
theorem FRs.len {K : PySem.W.Frag} {H : Hp} {xs : List V} {qs : List Rat} {B : Nat} (h : FRs K H xs qs B) : xs.length = qs.length := by
  have := h.1
  rw [List.length_map] at this
  exact this
theorem FRs.nil {K : PySem.W.Frag} {H : Hp} {B : Nat} : FRs K H [] [] B := Frs.nil'
theorem FRs.cons {K : PySem.W.Frag} {H : Hp} {x : V} {q : Rat} {xs : List V} {qs : List Rat} {B : Nat} (h : FR K H x q B) (t : FRs K H xs qs B) : FRs K H (x :: xs) (q :: qs) B := Frs.cons' (f := ofR q) h t
theorem FRs.at {K : PySem.W.Frag} {H : Hp} {xs : List V} {qs : List Rat} {B : Nat} (h : FRs K H xs qs B) {i : Nat} {x : V} {q : Rat} (hx : xs[i]? = some x) (hq : qs[i]? = some q) : FR K H x q B := h.2 i x (ofR q) hx (by rw [List.getElem?_map, hq]; rfl)
theorem FRs.app {K : PySem.W.Frag} {H : Hp} {xs ys : List V} {qs rs : List Rat} {B : Nat} (a : FRs K H xs qs B) (b : FRs K H ys rs B) : FRs K H (xs ++ ys) (qs ++ rs) B := by
  unfold FRs
  rw [List.map_append]
  exact Frs.app' a b
theorem FRs.snoc {K : PySem.W.Frag} {H : Hp} {xs : List V} {qs : List Rat} {x : V} {q : Rat} {B : Nat} (a : FRs K H xs qs B) (h : FR K H x q B) : FRs K H (xs ++ [x]) (qs ++ [q]) B := a.app (FRs.cons h FRs.nil)
theorem FRs.mono {K : PySem.W.Frag} {H H' : Hp} {xs : List V} {qs : List Rat} {B C : Nat} (a : FRs K H xs qs B) (h : ∀ v q, FR K H v q B → FR K H' v q C) : FRs K H' xs qs C := ⟨a.1, fun i x f hx hf => by
  rw [List.getElem?_map] at hf
  cases e : qs[i]? with
  | none => rw [e] at hf; cases hf
  | some q => rw [e] at hf; cases hf; exact h x q (a.at hx e)⟩
theorem FRs.get {K : PySem.W.Frag} {H : Hp} {xs : List V} {qs : List Rat} {B : Nat} (h : FRs K H xs qs B) {i : Nat} {x : V} (hx : xs[i]? = some x) : ∃ q, qs[i]? = some q ∧ FR K H x q B := by
  have l : i < qs.length := by rw [← h.len]; exact (List.getElem?_eq_some_iff.mp hx).1
  exact ⟨qs[i], List.getElem?_eq_getElem l, h.at hx (List.getElem?_eq_getElem l)⟩
/-! ### the value of a term -/
def lmax : List Rat → Rat
  | [] => 0
  | [x] => x
  | x :: xs => max x (lmax xs)
def lmin : List Rat → Rat
  | [] => 0
  | [x] => x
  | x :: xs => min x (lmin xs)
/-- the second largest of three -/
def med3 (x y z : Rat) : Rat := max (min x y) (min (max x y) z)
def lmed : List Rat → Rat
  | [x, y, z] => med3 x y z
  | _ => 0
def lmix : List Rat → List Rat → Rat
  | w :: ws, x :: xs => w * x + lmix ws xs
  | _, _ => 0
def Kd.comb : Kd → List Rat → Rat
  | .delay f, xs => lmax xs + toR f
  | .max, xs => lmax xs
  | .min, xs => lmin xs
  | .median, xs => lmed xs
  | .mix ws, xs => lmix (ws.map toR) xs
mutual
def Tm.val (ρ : Str → Rat) : Tm → Rat
  | .ev s => ρ s
  | .nd k ts => k.comb (Tm.vals ρ ts)
def Tm.vals (ρ : Str → Rat) : List Tm → List Rat
  | [] => []
  | t :: ts => t.val ρ :: Tm.vals ρ ts
end
theorem vals_map (ρ : Str → Rat) : ∀ ts : List Tm, Tm.vals ρ ts = ts.map (Tm.val ρ)
  | [] => by rw [Tm.vals]; rfl
  | t :: ts => by rw [Tm.vals, vals_map ρ ts]; rfl
/-! ### order, shift -/
def Le2 (xs ys : List Rat) : Prop := xs.length = ys.length ∧ ∀ (i : Nat) x y, xs[i]? = some x → ys[i]? = some y → x ≤ y
theorem Le2.uncons {x y : Rat} {xs ys : List Rat} (h : Le2 (x :: xs) (y :: ys)) : x ≤ y ∧ Le2 xs ys := ⟨h.2 0 x y rfl rfl, by have := h.1; simpa using this, fun i a b ha hb => h.2 (i + 1) a b ha hb⟩
theorem lmax_mono : ∀ {xs ys : List Rat}, Le2 xs ys → lmax xs ≤ lmax ys
  | [], [], _ => Rat.le_refl
  | [], _ :: _, h => by have := h.1; cases this
  | _ :: _, [], h => by have := h.1; cases this
  | [x], [y], h => h.uncons.1
  | [x], _ :: _ :: _, h => by have := h.1; cases this
  | _ :: _ :: _, [y], h => by have := h.1; cases this
  | x :: a :: xs, y :: b :: ys, h => by
    have i := lmax_mono h.uncons.2
    have j := h.uncons.1
    show max x (lmax (a :: xs)) ≤ max y (lmax (b :: ys))
    generalize lmax (a :: xs) = u at *
    generalize lmax (b :: ys) = v at *
    rw [Rat.max_def, Rat.max_def]
    grind
theorem lmin_mono : ∀ {xs ys : List Rat}, Le2 xs ys → lmin xs ≤ lmin ys
  | [], [], _ => Rat.le_refl
  | [], _ :: _, h => by have := h.1; cases this
  | _ :: _, [], h => by have := h.1; cases this
  | [x], [y], h => h.uncons.1
  | [x], _ :: _ :: _, h => by have := h.1; cases this
  | _ :: _ :: _, [y], h => by have := h.1; cases this
  | x :: a :: xs, y :: b :: ys, h => by
    have i := lmin_mono h.uncons.2
    have j := h.uncons.1
    show min x (lmin (a :: xs)) ≤ min y (lmin (b :: ys))
    generalize lmin (a :: xs) = u at *
    generalize lmin (b :: ys) = v at *
    rw [Rat.min_def, Rat.min_def]
    grind
theorem med3_mono {x y z x' y' z' : Rat} (h1 : x ≤ x') (h2 : y ≤ y') (h3 : z ≤ z') : med3 x y z ≤ med3 x' y' z' := by
  unfold med3
  simp only [Rat.max_def, Rat.min_def]
  grind
theorem lmed_mono : ∀ {xs ys : List Rat}, Le2 xs ys → lmed xs ≤ lmed ys := by
  intro xs ys h
  unfold lmed
  split
  · rename_i x y z
    match ys, h with
    | [x', y', z'], h => exact med3_mono h.uncons.1 h.uncons.2.uncons.1 h.uncons.2.uncons.2.uncons.1
    | [], h => have := h.1; cases this
    | [_], h => have := h.1; cases this
    | [_, _], h => have := h.1; cases this
    | _ :: _ :: _ :: _ :: _, h => have := h.1; cases this
  · rename_i ne
    split
    · rename_i x y z
      match xs, h, ne with
      | [a, b, c], _, ne => exact absurd rfl (ne a b c)
      | [], h, _ => have := h.1; cases this
      | [_], h, _ => have := h.1; cases this
      | [_, _], h, _ => have := h.1; cases this
      | _ :: _ :: _ :: _ :: _, h, _ => have := h.1; cases this
    · exact Rat.le_refl
theorem lmix_mono : ∀ {ws xs ys : List Rat}, (∀ w ∈ ws, 0 ≤ w) → Le2 xs ys → lmix ws xs ≤ lmix ws ys
  | [], xs, ys, _, _ => by cases xs <;> cases ys <;> exact Rat.le_refl
  | w :: ws, [], [], _, _ => Rat.le_refl
  | w :: ws, [], _ :: _, _, h => by have := h.1; cases this
  | w :: ws, _ :: _, [], _, h => by have := h.1; cases this
  | w :: ws, x :: xs, y :: ys, hw, h => by
    have i := lmix_mono (fun v hv => hw v (List.mem_cons_of_mem _ hv)) h.uncons.2
    have j := Rat.mul_le_mul_of_nonneg_left h.uncons.1 (hw w List.mem_cons_self)
    show w * x + lmix ws xs ≤ w * y + lmix ws ys
    grind
theorem lmax_shift (c : Rat) : ∀ {xs : List Rat}, xs ≠ [] → lmax (xs.map (· + c)) = lmax xs + c
  | [], h => absurd rfl h
  | [x], _ => rfl
  | x :: a :: xs, _ => by
    have i := lmax_shift c (xs := a :: xs) (by simp)
    show max (x + c) (lmax ((a :: xs).map (· + c))) = max x (lmax (a :: xs)) + c
    rw [i]
    generalize lmax (a :: xs) = u
    simp only [Rat.max_def]
    grind
theorem lmin_shift (c : Rat) : ∀ {xs : List Rat}, xs ≠ [] → lmin (xs.map (· + c)) = lmin xs + c
  | [], h => absurd rfl h
  | [x], _ => rfl
  | x :: a :: xs, _ => by
    have i := lmin_shift c (xs := a :: xs) (by simp)
    show min (x + c) (lmin ((a :: xs).map (· + c))) = min x (lmin (a :: xs)) + c
    rw [i]
    generalize lmin (a :: xs) = u
    simp only [Rat.min_def]
    grind
theorem med3_shift (c x y z : Rat) : med3 (x + c) (y + c) (z + c) = med3 x y z + c := by
  unfold med3
  simp only [Rat.max_def, Rat.min_def]
  grind
theorem lmix_shift (c : Rat) : ∀ {ws xs : List Rat}, ws.length = xs.length → lmix ws (xs.map (· + c)) = lmix ws xs + ws.sum * c
  | [], [], _ => by show (0 : Rat) = 0 + (0 : Rat) * c; grind
  | [], _ :: _, h => by cases h
  | _ :: _, [], h => by cases h
  | w :: ws, x :: xs, h => by
    have i := lmix_shift c (ws := ws) (xs := xs) (by simpa using h)
    show w * (x + c) + lmix ws (xs.map (· + c)) = w * x + lmix ws xs + (w :: ws).sum * c
    rw [i, List.sum_cons]
    grind
/-! ### promises over rationals -/
def spAddR (K : PySem.W.Frag) : Sp := fun vs H Q _ => ∃ (v1 v2 : V) (x y : Rat), vs = [v1, v2] ∧ FR K H v1 x 3900 ∧ FR K H v2 y 3900 ∧ ∀ p, H p = none → Q (.ref p) (upd H p (.tup [.int (ofR (x + y)).1, .int (ofR (x + y)).2]))
def spSubR (K : PySem.W.Frag) : Sp := fun vs H Q _ => ∃ (v1 v2 : V) (x y : Rat), vs = [v1, v2] ∧ FR K H v1 x 3900 ∧ FR K H v2 y 3900 ∧ ∀ p, H p = none → Q (.ref p) (upd H p (.tup [.int (ofR (x - y)).1, .int (ofR (x - y)).2]))
def spMulR (K : PySem.W.Frag) : Sp := fun vs H Q _ => ∃ (v1 v2 : V) (x y : Rat), vs = [v1, v2] ∧ FR K H v1 x 3900 ∧ FR K H v2 y 3900 ∧ ∀ p, H p = none → Q (.ref p) (upd H p (.tup [.int (ofR (x * y)).1, .int (ofR (x * y)).2]))
theorem lmax_eq : ∀ {qs : List Rat} {j : Nat} {q : Rat}, qs[j]? = some q → (∀ (i : Nat) g, qs[i]? = some g → g ≤ q) → lmax qs = q
  | [], j, q, h, _ => by cases h
  | [x], j, q, h, k => by
    cases j with
    | zero => cases h; rfl
    | succ j => cases h
  | x :: y :: qs, j, q, h, k => by
    show max x (lmax (y :: qs)) = q
    have hx := k 0 x rfl
    cases j with
    | zero =>
      cases h
      have up : ∀ {l : List Rat}, l ≠ [] → (∀ (i : Nat) g, l[i]? = some g → g ≤ x) → lmax l ≤ x := by
        intro l
        induction l with
        | nil => intro h; exact absurd rfl h
        | cons a l ih =>
          intro _ h
          cases l with
          | nil => exact h 0 a rfl
          | cons b l =>
            show max a (lmax (b :: l)) ≤ x
            have h1 := h 0 a rfl
            have h2 := ih (by simp) fun i g hg => h (i + 1) g hg
            rw [Rat.max_def]
            split <;> assumption
      have h2 := up (l := y :: qs) (by simp) fun i g hg => k (i + 1) g hg
      rw [Rat.max_def]
      grind
    | succ j =>
      rw [lmax_eq (qs := y :: qs) (j := j) h fun i g hg => k (i + 1) g hg, Rat.max_def]
      grind
theorem lmin_eq : ∀ {qs : List Rat} {j : Nat} {q : Rat}, qs[j]? = some q → (∀ (i : Nat) g, qs[i]? = some g → q ≤ g) → lmin qs = q
  | [], j, q, h, _ => by cases h
  | [x], j, q, h, k => by
    cases j with
    | zero => cases h; rfl
    | succ j => cases h
  | x :: y :: qs, j, q, h, k => by
    show min x (lmin (y :: qs)) = q
    have hx := k 0 x rfl
    cases j with
    | zero =>
      cases h
      have up : ∀ {l : List Rat}, l ≠ [] → (∀ (i : Nat) g, l[i]? = some g → x ≤ g) → x ≤ lmin l := by
        intro l
        induction l with
        | nil => intro h; exact absurd rfl h
        | cons a l ih =>
          intro _ h
          cases l with
          | nil => exact h 0 a rfl
          | cons b l =>
            show x ≤ min a (lmin (b :: l))
            have h1 := h 0 a rfl
            have h2 := ih (by simp) fun i g hg => h (i + 1) g hg
            rw [Rat.min_def]
            split <;> assumption
      have h2 := up (l := y :: qs) (by simp) fun i g hg => k (i + 1) g hg
      rw [Rat.min_def]
      grind
    | succ j =>
      rw [lmin_eq (qs := y :: qs) (j := j) h fun i g hg => k (i + 1) g hg, Rat.min_def]
      grind
theorem fst_R {lt : QQ → QQ → Bool} {qs : List Rat} {j : Nat} (f : Fst lt (qs.map ofR) j) : ∃ q, qs[j]? = some q ∧ ∀ (i : Nat) g, qs[i]? = some g → lt (ofR q) (ofR g) = false := by
  obtain ⟨f, e, k, _⟩ := f
  rw [List.getElem?_map] at e
  cases h : qs[j]? with
  | none => rw [h] at e; cases e
  | some q =>
    rw [h] at e
    cases e
    exact ⟨q, rfl, fun i g hg => k i (ofR g) (by rw [List.getElem?_map, hg]; rfl)⟩
theorem max_R {qs : List Rat} {j : Nat} (f : Fst rlt (qs.map ofR) j) : qs[j]? = some (lmax qs) := by
  obtain ⟨q, h, k⟩ := fst_R f
  rw [lmax_eq h fun i g hg => by
    have z := k i g hg
    rw [rlt_R] at z
    exact Rat.not_lt.mp (of_decide_eq_false z)]
  exact h
theorem min_R {qs : List Rat} {j : Nat} (f : Fst (fun a b => rlt b a) (qs.map ofR) j) : qs[j]? = some (lmin qs) := by
  obtain ⟨q, h, k⟩ := fst_R f
  rw [lmin_eq h fun i g hg => by
    have z := k i g hg
    rw [rlt_R] at z
    exact Rat.not_lt.mp (of_decide_eq_false z)]
  exact h
/-- the place of the greatest, the least -/
def spIx (K : PySem.W.Frag) (best : List Rat → Rat) : Sp := fun vs H Q _ => ∃ (p : Addr) (xs : List V) (qs : List Rat), vs = [.ref p] ∧ Sq K H p xs ∧ FRs K H xs qs 3900 ∧ 0 < xs.length ∧ ∀ (j : Nat) H', Same H H' → qs[j]? = some (best qs) → Q (.int (j : Nat)) H'
/-- the greatest, the least itself -/
def spBest (K : PySem.W.Frag) (best : List Rat → Rat) : Sp := fun vs H Q _ => ∃ (p : Addr) (xs : List V) (qs : List Rat) (B : Nat), vs = [.ref p] ∧ SqL K H p xs ∧ FRs K H xs qs B ∧ B ≤ 20000 ∧ 0 < xs.length ∧ ∀ v, v ∈ xs → FR K H v (best qs) B → Q v H
/-- sums -/
theorem bt_up0 {B : Nat} (h : 0 < B) : Bt 0 B := by
  cases B with
  | zero => cases h
  | succ B => exact bt0
/-! ### terms and tables -/
mutual
def Tm.bt (b : Nat) : Tm → Nat
  | .ev _ => b
  | .nd _ ts => ts.length * (Tm.bm b ts + 41) + 2
def Tm.bm (b : Nat) : List Tm → Nat
  | [] => 0
  | t :: ts => Nat.max (t.bt b) (Tm.bm b ts)
end
theorem bm_ge {b : Nat} : ∀ {ts : List Tm} {u : Tm}, u ∈ ts → u.bt b ≤ Tm.bm b ts
  | t :: ts, u, h => by
    rw [Tm.bm]
    rcases List.mem_cons.mp h with z | z
    · rw [z]; exact Nat.le_max_left _ _
    · exact Nat.le_trans (bm_ge z) (Nat.le_max_right _ _)
theorem bm_le {b B : Nat} : ∀ {ts : List Tm}, (∀ t ∈ ts, t.bt b ≤ B) → Tm.bm b ts ≤ B
  | [], _ => by rw [Tm.bm]; exact Nat.zero_le _
  | t :: ts, h => by
    rw [Tm.bm]
    exact Nat.max_le.mpr ⟨h t List.mem_cons_self, bm_le fun u hu => h u (List.mem_cons_of_mem _ hu)⟩
/-- fit for evaluation -/
def VOk : Nat → Tm → Prop
  | 0, _ => False
  | _ + 1, .ev _ => True
  | n + 1, .nd k ts => ((1 ≤ ts.length ∧ ts.length ≤ 60) ∧ (k = .median → ts.length = 3)) ∧ ∀ t ∈ ts, VOk n t
theorem VOk.arN : ∀ {n : Nat} {t : Tm}, VOk n t → ArN n t
  | 0, _, h => h
  | n + 1, .ev _, _ => trivial
  | n + 1, .nd k ts, h => ⟨h.1.1, fun t ht => (h.2 t ht).arN⟩
theorem VOk.up : ∀ {n : Nat} {t : Tm}, VOk n t → VOk (n + 1) t
  | 0, _, h => h.elim
  | n + 1, .ev _, _ => trivial
  | n + 1, .nd k ts, h => ⟨h.1, fun t ht => (h.2 t ht).up⟩
theorem VOk.le {n m : Nat} (l : n ≤ m) {t : Tm} (h : VOk n t) : VOk m t := by
  induction l with
  | refl => exact h
  | step _ ih => exact ih.up
theorem Good.vok {ss : List Str} : ∀ {n : Nat} {t : Tm}, Good ss n t → VOk n t
  | 0, _, h => h
  | n + 1, .ev s, h => trivial
  | n + 1, .nd k ts, h => ⟨⟨Good.ar (n := n + 1) (t := .nd k ts) h, fun e => by have := h.1; rw [e] at this; exact this⟩, fun t ht => (h.2 t ht).vok⟩
def btG (b : Nat) : Nat → Nat
  | 0 => b
  | n + 1 => 3 * (btG b n + 41) + 2
theorem btG_ge (b : Nat) : ∀ n, b ≤ btG b n
  | 0 => Nat.le_refl _
  | n + 1 => by have := btG_ge b n; rw [btG]; omega
theorem Good.bt {ss : List Str} {b : Nat} : ∀ {n : Nat} {t : Tm}, Good ss (n + 1) t → t.bt b ≤ btG b n
  | n, .ev s, _ => by rw [Tm.bt]; exact btG_ge b n
  | 0, .nd k ts, h => by
    exfalso
    have h1 := (Good.ar (n := 1) (t := .nd k ts) h).1
    obtain ⟨u, hu⟩ : ∃ u, u ∈ ts := by
      cases ts with
      | nil => exact absurd h1 (by simp)
      | cons u _ => exact ⟨u, List.mem_cons_self⟩
    exact h.2 u hu
  | n + 1, .nd k ts, h => by
    have h3 := h.1.three
    have hb := bm_le (b := b) (B := btG b n) fun t ht => (h.2 t ht).bt
    have m1 := Nat.mul_le_mul h3 (Nat.add_le_add_right hb 41)
    rw [Tm.bt, btG]
    omega
def Tbl (K : PySem.W.Frag) (H : Hp) (d : Addr) (ρ : Str → Rat) (ss : List Str) (b : Nat) : Prop := ∃ kvs : List (Key × V), H d = some (.dK kvs) ∧ ∀ s ∈ ss, ∃ v, valV kvs (Sum.inr s : Key) = some v ∧ FR K H v (ρ s) b
theorem Tbl.same {K : PySem.W.Frag} {H H' : Hp} {d : Addr} {ρ : Str → Rat} {ss : List Str} {b : Nat} (h : Tbl K H d ρ ss b) (s : Same H H') : Tbl K H' d ρ ss b := by
  obtain ⟨kvs, e, k⟩ := h
  exact ⟨kvs, s _ _ e, fun x hx => by obtain ⟨v, h1, h2⟩ := k x hx; exact ⟨v, h1, h2.same s⟩⟩
theorem Tbl.sub {K : PySem.W.Frag} {H : Hp} {d : Addr} {ρ : Str → Rat} {ss ts : List Str} {b : Nat} (h : Tbl K H d ρ ss b) (k : ∀ s ∈ ts, s ∈ ss) : Tbl K H d ρ ts b := by
  obtain ⟨kvs, e, z⟩ := h
  exact ⟨kvs, e, fun x hx => z x (k x hx)⟩
theorem Tbl.kp {K : PySem.W.Frag} {H H' : Hp} {r d : Addr} {ρ : Str → Rat} {ss : List Str} {b : Nat} (h : Tbl K H d ρ ss b) (R : Rg H r) (k : Kp r H H') : Tbl K H' d ρ ss b := by
  obtain ⟨kvs, e, z⟩ := h
  have dr : d ≠ r := by
    obtain ⟨c, ns, i, x, kk, R⟩ := R
    exact ne_of e R.hr fun z => by cases z
  exact ⟨kvs, k.1 _ _ dr e, fun x hx => by obtain ⟨v, h1, h2⟩ := z x hx; exact ⟨v, h1, h2.kp R k⟩⟩
theorem flat_mem {ts : List Tm} : ∀ {u : Tm}, u ∈ ts → ∀ s ∈ u.flat, s ∈ Tm.flats ts := by
  induction ts with
  | nil => intro u h; cases h
  | cons t ts ih =>
    intro u h s hs
    rw [Tm.flats]
    rcases List.mem_cons.mp h with z | z
    · rw [z] at hs; exact List.mem_append_left _ hs
    · exact List.mem_append_right _ (ih z s hs)
def spVal (K : PySem.W.Frag) : Nat → Sp
  | 0 => fun _ _ _ _ => False
  | n + 1 => fun vs H Q _ => ∃ (v : V) (d : Addr) (t : Tm) (ρ : Str → Rat) (b : Nat), vs = [v, .ref d] ∧ TmAt K H (n + 1) v t ∧ VOk (n + 1) t ∧ t.bt b ≤ 3900 ∧ Tbl K H d ρ t.flat b ∧ ∀ u H', Same H H' → FR K H' u (t.val ρ) (t.bt b) → Q u H'
theorem TmAt.hd {K : PySem.W.Frag} {H : Hp} {n : Nat} {v : V} {k : Kd} {ts : List Tm} (ht : TmAt K H (n + 1) v (.nd k ts)) : ∃ p ys, v = .ref p ∧ SqT K H p (.str (kdS k) :: ys) := by
  obtain ⟨xs, hN, _⟩ := ht
  cases k with
  | delay f => obtain ⟨p, x, fv, _, e, hp, _⟩ := hN; exact ⟨p, _, e, hp⟩
  | max => obtain ⟨p, e, hp⟩ := hN; exact ⟨p, _, e, hp⟩
  | min => obtain ⟨p, e, hp⟩ := hN; exact ⟨p, _, e, hp⟩
  | median => obtain ⟨p, e, hp⟩ := hN; exact ⟨p, _, e, hp⟩
  | mix ws => obtain ⟨p, ys, e, hp, _⟩ := hN; exact ⟨p, _, e, hp⟩
theorem kd_ev (k : Kd) : decide (kdS k = ("event" : Str)) = false := by
  cases k with
  | delay f => exact (show decide (("delay" : Str) = "event") = false by decide +kernel)
  | max => exact (show decide (("max" : Str) = "event") = false by decide +kernel)
  | min => exact (show decide (("min" : Str) = "event") = false by decide +kernel)
  | median => exact (show decide (("median" : Str) = "event") = false by decide +kernel)
  | mix ws => exact (show decide (("mix" : Str) = "event") = false by decide +kernel)
theorem sum_lmix : ∀ (ws xs : List Rat) (s : Rat), (List.zipWith (· * ·) ws xs).foldl (· + ·) s = s + lmix ws xs
  | [], xs, s => by
    cases xs <;> (show s = s + (0 : Rat); grind)
  | w :: ws, [], s => by show s = s + (0 : Rat); grind
  | w :: ws, x :: xs, s => by
    show (List.zipWith (· * ·) ws xs).foldl (· + ·) (s + w * x) = s + (w * x + lmix ws xs)
    rw [sum_lmix ws xs]
    grind
theorem fr_zero {K : PySem.W.Frag} {H : Hp} {p : Addr} (h : SqT K H p [.int 0, .int 1]) : FR K H (.ref p) 0 1 := FR.mk ⟨p, rfl, h⟩ (bt0 (B := 0))
/-! ### distances -/
def rabs (x : Rat) : Rat := if x < 0 then -x else x
theorem rabs_of (x : Rat) : ofR (rabs x) = ((if (ofR x).1 < 0 then -(ofR x).1 else (ofR x).1), (ofR x).2) := by
  unfold rabs ofR
  have e : x < 0 ↔ x.num < 0 := by
    rw [Rat.lt_iff]
    show x.num * 1 < 0 * (x.den : Int) ↔ _
    rw [Int.mul_one, Int.zero_mul]
  by_cases h : x < 0
  · rw [if_pos h, if_pos (e.mp h), Rat.neg_num, Rat.neg_den]
  · rw [if_neg h, if_neg (fun z => h (e.mpr z))]
theorem Bt.abs {x : Rat} {B : Nat} (h : Bt x B) : Bt (rabs x) B := by
  unfold rabs
  split
  · exact h.neg
  · exact h
theorem rabs_le {x c : Rat} (h : rabs x ≤ c) : x ≤ c ∧ -x ≤ c := by
  unfold rabs at h
  split at h <;> grind
theorem rabs_of_le {x c : Rat} (h1 : x ≤ c) (h2 : -x ≤ c) : rabs x ≤ c := by
  unfold rabs
  split <;> assumption
theorem lmax_ge : ∀ {qs : List Rat} {q : Rat}, q ∈ qs → q ≤ lmax qs
  | [x], q, h => by rw [List.mem_singleton.mp h]; exact Rat.le_refl
  | x :: y :: qs, q, h => by
    show q ≤ max x (lmax (y :: qs))
    rcases List.mem_cons.mp h with z | z
    · rw [z, Rat.max_def]; grind
    · have := lmax_ge z
      rw [Rat.max_def]
      grind

/-! ### tables drawn pair by pair -/
def DTab (K : PySem.W.Frag) (H : Hp) (D : Addr) (ss : List Str) (i : Nat) (qs : List Rat) (b : Nat) : Prop := ∃ (pas : List Addr) (vs : List V), H D = some (.lst (pas.map V.ref)) ∧ pas.length = i ∧ vs.length = i ∧ FRs K H vs qs b ∧ ∀ (j : Nat) p s v, pas[j]? = some p → ss[j]? = some s → vs[j]? = some v → SqT K H p [.str s, v]
theorem DTab.nil {K : PySem.W.Frag} {H : Hp} {D : Addr} {ss : List Str} {b : Nat} : DTab K (upd H D (.lst [])) D ss 0 [] b := ⟨[], [], upd_same, rfl, rfl, FRs.nil, fun j p s v h => by cases h⟩
theorem SqT.put {K : PySem.W.Frag} {H : Hp} {D p : Addr} {l l' xs : List V} (h : SqT K H p xs) (hD : H D = some (.lst l)) : SqT K (upd H D (.lst l')) p xs := by
  rcases h with (z | ⟨o, z⟩) | z
  · exact .inl (.inl (by rw [upd_ne (ne_of z hD (fun y => by cases y))]; exact z))
  · exact .inl (.inr ⟨o, by rw [upd_ne (ne_of z hD (fun y => by cases y))]; exact z⟩)
  · exact .inr z
/-- one pair more: what stood at H1 stands at H2, there the pair (s, v) is made at p -/
theorem DTab.more {K : PySem.W.Frag} {H1 H2 : Hp} {D : Addr} {ss : List Str} {i : Nat} {qs : List Rat} {b : Nat} {s : Str} {v : V} {q : Rat} {p : Addr} (h : DTab K H1 D ss i qs b) (hi : i < 1000) (hs : ss[i]? = some s) (fD : ∀ l, H1 D = some (.lst l) → H2 D = some (.lst l)) (fT : ∀ p xs, SqT K H1 p xs → SqT K H2 p xs) (fv : FR K H2 v q b) (np : H2 p = none) :
    ∃ acc, (upd H2 p (.tup [.str s, v])) D = some (.lst acc) ∧ acc.length < sizeLine ∧ DTab K (upd (upd H2 p (.tup [.str s, v])) D (.lst (acc ++ [.ref p]))) D ss (i + 1) (qs ++ [q]) b := by
  obtain ⟨pas, vs, hD, l1, l2, hF, hP⟩ := h
  have sp := Same.new (o := .tup [.str s, v]) np
  have hD2 := sp _ _ (fD _ hD)
  refine ⟨_, hD2, by rw [List.length_map, l1]; exact szl (by omega), pas ++ [p], vs ++ [v], by rw [upd_same, List.map_append]; rfl, by rw [List.length_append, l1]; rfl, by rw [List.length_append, l2]; rfl, ?_, ?_⟩
  · exact FRs.snoc ⟨hF.1, fun j x f a c => by
      rw [List.getElem?_map] at c
      cases e : qs[j]? with
      | none => rw [e] at c; cases c
      | some q => rw [e] at c; cases c; exact FR.put (FR.same ⟨(by obtain ⟨a', e', z⟩ := (hF.at a e).fr; exact ⟨a', e', fT _ _ z⟩), (hF.at a e).d0, (hF.at a e).g, (hF.at a e).nB, (hF.at a e).dB⟩ sp) hD2⟩ ((fv.same sp).put hD2)
  · intro j p' s' v' e1 e2 e3
    by_cases hj : j < i
    · rw [List.getElem?_append_left (by omega)] at e1 e3
      exact SqT.put (Same.T sp (fT _ _ (hP j p' s' v' e1 e2 e3))) hD2
    · have ej : j = i := by
        have := (List.getElem?_eq_some_iff.mp e1).1
        rw [List.length_append, l1] at this
        have : j < i + 1 := this
        omega
      subst ej
      rw [List.getElem?_append_right (by omega), l1, Nat.sub_self] at e1
      rw [List.getElem?_append_right (by omega), l2, Nat.sub_self] at e3
      cases e1; cases e3
      rw [hs] at e2; cases e2
      exact SqT.put (SqT.of upd_same) hD2
def kvz (ss : List Str) (vs : List V) : List (Key × V) := (ss.zip vs).map fun z => (Sum.inr z.1, z.2)
theorem paired_of {K : PySem.W.Frag} {H : Hp} : ∀ {pas : List Addr} {ss : List Str} {vs : List V}, pas.length = ss.length → vs.length = ss.length → (∀ (j : Nat) p s v, pas[j]? = some p → ss[j]? = some s → vs[j]? = some v → SqT K H p [.str s, v]) → Paired (fun p kv => SqT K H p [kV kv.1, kv.2]) pas (kvz ss vs)
  | [], [], [], _, _, _ => .nil
  | p :: pas, s :: ss, v :: vs, l1, l2, h => .cons (h 0 p s v rfl rfl rfl) (paired_of (by simpa using l1) (by simpa using l2) fun j p' s' v' e1 e2 e3 => h (j + 1) p' s' v' e1 e2 e3)
  | [], _ :: _, _, l1, _, _ => by cases l1
  | _ :: _, [], _, l1, _, _ => by cases l1
  | [], [], _ :: _, _, l2, _ => by cases l2
  | _ :: _, _ :: _, [], _, l2, _ => by cases l2
theorem merge_old : ∀ (l acc : List (Key × V)) (k : Key), (∀ z ∈ l, z.1 ≠ k) → valV (mergeK acc l) k = valV acc k
  | [], _, _, _ => rfl
  | z :: l, acc, k, h => by
    show valV (mergeK (putK acc z.1 z.2) l) k = _
    rw [merge_old l _ k fun y hy => h y (List.mem_cons_of_mem _ hy), valV_put, if_neg fun e => h z List.mem_cons_self e.symm]
theorem merge_at : ∀ {ss : List Str} {vs : List V} {acc : List (Key × V)} {j : Nat} {s : Str} {v : V}, ss.Nodup → ss[j]? = some s → vs[j]? = some v → valV (mergeK acc (kvz ss vs)) (Sum.inr s : Key) = some v
  | [], _, _, _, _, _, _, h, _ => by cases h
  | _ :: _, [], _, _, _, _, _, _, h => by cases h
  | x :: ss, y :: vs, acc, 0, s, v, nd, h1, h2 => by
    cases h1; cases h2
    show valV (mergeK (putK acc (Sum.inr x) y) (kvz ss vs)) _ = _
    rw [merge_old, valV_put, if_pos rfl]
    intro z hz e
    obtain ⟨w, hw, rfl⟩ := List.mem_map.mp hz
    have := (List.of_mem_zip hw).1
    exact (List.nodup_cons.mp nd).1 (Sum.inr.inj e ▸ this)
  | x :: ss, y :: vs, acc, j + 1, s, v, nd, h1, h2 => by
    show valV (mergeK (putK acc (Sum.inr x) y) (kvz ss vs)) _ = _
    exact merge_at (List.nodup_cons.mp nd).2 h1 h2
theorem ex_asg : ∀ {ss : List Str} {qs : List Rat}, ss.Nodup → ∃ ρ : Str → Rat, ∀ (j : Nat) s q, ss[j]? = some s → qs[j]? = some q → ρ s = q
  | [], _, _ => ⟨fun _ => 0, fun j s q h => by cases h⟩
  | x :: ss, [], _ => ⟨fun _ => 0, fun j s q _ h => by cases h⟩
  | x :: ss, y :: qs, nd => by
    obtain ⟨ρ, h⟩ := ex_asg (ss := ss) (qs := qs) (List.nodup_cons.mp nd).2
    refine ⟨fun z => if z = x then y else ρ z, fun j s q h1 h2 => ?_⟩
    cases j with
    | zero => cases h1; cases h2; exact if_pos rfl
    | succ j =>
      have hne : s ≠ x := fun e => (List.nodup_cons.mp nd).1 (e ▸ List.mem_of_getElem? h1)
      show (if s = x then y else ρ s) = q
      rw [if_neg hne]
      exact h j s q h1 h2
/-- dict(..) of the pairs -/
theorem DTab.done {K : PySem.W.Frag} {H : Hp} {D : Addr} {ss : List Str} {qs : List Rat} {b : Nat} (h : DTab K H D ss ss.length qs b) (nd : ss.Nodup) {ρ : Str → Rat} (hρ : ∀ (j : Nat) s q, ss[j]? = some s → qs[j]? = some q → ρ s = q) :
    ∃ (ps : List Addr) (kvs : List (Key × V)), SqL K H D (ps.map V.ref) ∧ Paired (fun p kv => SqT K H p [kV kv.1, kv.2]) ps kvs ∧ ∀ d, H d = none → Tbl K (upd H d (.dK (mergeK [] kvs))) d ρ ss b := by
  obtain ⟨pas, vs, hD, l1, l2, hF, hP⟩ := h
  refine ⟨pas, kvz ss vs, SqL.of hD, paired_of l1 l2 hP, fun d nd' => ⟨_, upd_same, fun s hs => ?_⟩⟩
  obtain ⟨j, hj, e⟩ := List.getElem_of_mem hs
  have hs' : ss[j]? = some s := by rw [List.getElem?_eq_getElem hj, e]
  have hv : vs[j]? = some (vs[j]'(by omega)) := List.getElem?_eq_getElem _
  obtain ⟨q, hq, fq⟩ := hF.get hv
  refine ⟨_, merge_at nd hs' hv, ?_⟩
  rw [hρ j s q hs' hq]
  exact fq.same (Same.new nd')
theorem sum_more {qs : List Rat} {s : Rat} {i : Nat} {q : Rat} (h : qs[i]? = some q) : (qs.take (i + 1)).foldl (· + ·) s = (qs.take i).foldl (· + ·) s + q := by
  rw [List.take_add_one, h, List.foldl_append]
  rfl
theorem ded_mem {l : List Str} {x : Str} : x ∈ ded l ↔ x ∈ l := by
  unfold ded
  rw [fold_mem]
  simp
theorem strs_at {l : List Str} {i : Nat} {x : V} (h : (l.map V.str)[i]? = some x) : ∃ s, l[i]? = some s ∧ x = .str s := by
  rw [List.getElem?_map] at h
  cases e : l[i]? with
  | none => rw [e] at h; cases h
  | some q => rw [e] at h; exact ⟨q, rfl, (Option.some.inj h).symm⟩
theorem med3_in (x y z : Rat) : med3 x y z = x ∨ med3 x y z = y ∨ med3 x y z = z := by
  unfold med3
  simp only [Rat.max_def, Rat.min_def]
  grind
theorem med3_sum (x y z : Rat) : (0 + x + y + z) - (lmin [x, y, z] + lmax [x, y, z]) = med3 x y z := by
  show (0 + x + y + z) - (min x (min y z) + max x (max y z)) = med3 x y z
  unfold med3
  simp only [Rat.max_def, Rat.min_def]
  grind
theorem ofR_bt {q : Rat} {B : Nat} {K : PySem.W.Frag} {H : Hp} {v : V} {C : Nat} (f : FR K H v q B) (b : Bt q C) : FR K H v q C := FR.mk f.fr b
/-! ### tables that may lack names -/
def TabX (K : PySem.W.Frag) (H : Hp) (d : Addr) (kvs : List (Key × V)) (ρ : Str → Rat) (b : Nat) : Prop := H d = some (.dK kvs) ∧ ∀ (s : Str) v, valV kvs (Sum.inr s : Key) = some v → FR K H v (ρ s) b
theorem TabX.same {K : PySem.W.Frag} {H H' : Hp} {d : Addr} {kvs : List (Key × V)} {ρ : Str → Rat} {b : Nat} (h : TabX K H d kvs ρ b) (s : Same H H') : TabX K H' d kvs ρ b := ⟨s _ _ h.1, fun x v e => (h.2 x v e).same s⟩
theorem TabX.kp {K : PySem.W.Frag} {H H' : Hp} {r d : Addr} {kvs : List (Key × V)} {ρ : Str → Rat} {b : Nat} (h : TabX K H d kvs ρ b) (R : Rg H r) (k : Kp r H H') : TabX K H' d kvs ρ b := by
  have dr : d ≠ r := by
    obtain ⟨c, ns, i, x, kk, R⟩ := R
    exact ne_of h.1 R.hr fun z => by cases z
  exact ⟨k.1 _ _ dr h.1, fun x v e => (h.2 x v e).kp R k⟩
def missing (kvs : List (Key × V)) (t : Tm) : List Str := (ded t.flat).filter fun s => (valV kvs (Sum.inr s : Key)).isNone
theorem TabX.tbl {K : PySem.W.Frag} {H : Hp} {d : Addr} {kvs : List (Key × V)} {ρ : Str → Rat} {b : Nat} {t : Tm} (h : TabX K H d kvs ρ b) (m : missing kvs t = []) : Tbl K H d ρ t.flat b := by
  refine ⟨kvs, h.1, fun s hs => ?_⟩
  cases e : valV kvs (Sum.inr s : Key) with
  | some v => exact ⟨v, rfl, h.2 s v e⟩
  | none =>
    exfalso
    have : s ∈ missing kvs t := List.mem_filter.mpr ⟨ded_mem.mpr hs, by rw [e]; rfl⟩
    rw [m] at this
    cases this
theorem TabX.dget {K : PySem.W.Frag} {H : Hp} {d : Addr} {kvs : List (Key × V)} {ρ : Str → Rat} {b : Nat} {s : Str} (h : TabX K H d kvs ρ b) : DGet H d (.str s) (valV kvs (Sum.inr s : Key)) := DGet.k (k := Sum.inr s) h.1
theorem Tbl.full {K : PySem.W.Frag} {H : Hp} {d : Addr} {ρ : Str → Rat} {t : Tm} {b : Nat} (h : Tbl K H d ρ t.flat b) : ∃ kvs, H d = some (.dK kvs) ∧ missing kvs t = [] ∧ ∀ s ∈ t.flat, ∃ v, valV kvs (Sum.inr s : Key) = some v ∧ FR K H v (ρ s) b := by
  obtain ⟨kvs, e, z⟩ := h
  refine ⟨kvs, e, ?_, z⟩
  unfold missing
  rw [List.filter_eq_nil_iff]
  intro s hs
  obtain ⟨v, hv, _⟩ := z s (ded_mem.mp hs)
  rw [hv]
  simp
theorem DTab.ext {K : PySem.W.Frag} {H : Hp} {D : Addr} {ss us : List Str} {qs : List Rat} {b : Nat} (h : DTab K H D ss ss.length qs b) : DTab K H D (ss ++ us) ss.length qs b := by
  obtain ⟨pas, vs, hD, l1, l2, hF, hP⟩ := h
  refine ⟨pas, vs, hD, l1, l2, hF, fun j p s v e1 e2 e3 => hP j p s v e1 ?_ e3⟩
  have jl : j < pas.length := (List.getElem?_eq_some_iff.mp e1).1
  rw [List.getElem?_append_left (by omega)] at e2
  exact e2
theorem put_nd {kvs : List (Key × V)} {k : Key} {v : V} (h : (kvs.map (·.1)).Nodup) : ((putK kvs k v).map (·.1)).Nodup := by
  cases e : valV kvs k with
  | none => exact nd_putK v h e
  | some y =>
    unfold putK
    have : (kvs.any fun kv => decide (kv.1 = k)) = true := by rw [valV_any, e]; rfl
    rw [if_pos this, List.map_map]
    have e2 : (fun kv : Key × V => (if kv.1 = k then (kv.1, v) else kv).1) = fun kv => kv.1 := by
      funext kv
      split <;> rfl
    exact (show (kvs.map fun kv => (if kv.1 = k then (kv.1, v) else kv).1).Nodup by rw [e2]; exact h)
theorem merge_nd : ∀ (l acc : List (Key × V)), (acc.map (·.1)).Nodup → ((mergeK acc l).map (·.1)).Nodup
  | [], _, h => h
  | z :: l, acc, h => merge_nd l (putK acc z.1 z.2) (put_nd h)
theorem DTab.doneX {K : PySem.W.Frag} {H : Hp} {D : Addr} {ss : List Str} {qs : List Rat} {b : Nat} (h : DTab K H D ss ss.length qs b) (nd : ss.Nodup) {ρ : Str → Rat} (hρ : ∀ (j : Nat) s q, ss[j]? = some s → qs[j]? = some q → ρ s = q) :
    ∃ (ps : List Addr) (kvs : List (Key × V)), SqL K H D (ps.map V.ref) ∧ Paired (fun p kv => SqT K H p [kV kv.1, kv.2]) ps kvs ∧ (∀ k, ∀ v, valV (mergeK [] kvs) k = some v → ∃ c, v = V.ref c) ∧ ((mergeK [] kvs).map (·.1)).Nodup ∧ ∀ d, H d = none → TabX K (upd H d (.dK (mergeK [] kvs))) d (mergeK [] kvs) ρ b := by
  obtain ⟨pas, vs, hD, l1, l2, hF, hP⟩ := h
  have key : ∀ k v, valV (mergeK [] (kvz ss vs)) k = some v → ∃ (j : Nat) (s : Str), ss[j]? = some s ∧ vs[j]? = some v ∧ k = Sum.inr s := by
    intro k v e
    by_cases hk : ∃ s ∈ ss, k = Sum.inr s
    · obtain ⟨s, hs, rfl⟩ := hk
      obtain ⟨j, hj, ej⟩ := List.getElem_of_mem hs
      have hs' : ss[j]? = some s := by rw [List.getElem?_eq_getElem hj, ej]
      have hv : vs[j]? = some (vs[j]'(by omega)) := List.getElem?_eq_getElem _
      rw [merge_at nd hs' hv] at e
      cases e
      exact ⟨j, s, hs', hv, rfl⟩
    · rw [merge_old _ _ _ fun z hz e2 => ?_] at e
      · cases e
      · obtain ⟨y, hy, rfl⟩ := List.mem_map.mp hz
        exact hk ⟨y.1, (List.of_mem_zip hy).1, e2.symm⟩
  refine ⟨pas, kvz ss vs, SqL.of hD, paired_of l1 l2 hP, fun k v e => ?_, merge_nd _ _ List.nodup_nil, fun d nd' => ⟨upd_same, fun s v e => ?_⟩⟩
  · obtain ⟨j, s, hs, hv, _⟩ := key k v e
    obtain ⟨q, hq, fq⟩ := hF.get hv
    obtain ⟨c, ec, _⟩ := fq.fr
    exact ⟨c, ec⟩
  · obtain ⟨j, s', hs, hv, es⟩ := key _ v e
    cases es
    obtain ⟨q, hq, fq⟩ := hF.get hv
    rw [hρ j s q hs hq]
    exact fq.same (Same.new nd')
theorem All2.cons1 {R : V → Tm → Prop} {x : V} {t : Tm} {xs : List V} {ts : List Tm} (k : R x t) (h : All2 R xs ts) : All2 R (x :: xs) (t :: ts) :=
  ⟨by rw [List.length_cons, List.length_cons, h.1], fun i y u a b => by
    cases i with
    | zero => cases a; cases b; exact k
    | succ i => exact h.2 i y u a b⟩
theorem all2_ex {R : V → Tm → Prop} {G : Tm → Prop} : ∀ {ys : List V}, (∀ y ∈ ys, ∃ t, R y t ∧ G t) → ∃ ts, All2 R ys ts ∧ ∀ t ∈ ts, G t
  | [], _ => ⟨[], All2.nil, fun t h => by cases h⟩
  | y :: ys, h => by
    obtain ⟨t, r, g⟩ := h y List.mem_cons_self
    obtain ⟨ts, a, b⟩ := all2_ex (ys := ys) fun z hz => h z (List.mem_cons_of_mem _ hz)
    refine ⟨t :: ts, All2.cons1 r a, fun u hu => ?_⟩
    rcases List.mem_cons.mp hu with e | e
    · rw [e]; exact g
    · exact b u e
theorem All2.ex {R : V → Tm → Prop} {G : Tm → Prop} {xs : List V} {ts : List Tm} (h : All2 R xs ts) (g : ∀ t ∈ ts, G t) : ∀ x ∈ xs, ∃ t, R x t ∧ G t := fun x hx => by
  obtain ⟨i, hi, e⟩ := List.getElem_of_mem hx
  obtain ⟨t, ht, r⟩ := h.at (i := i) (x := x) (by rw [List.getElem?_eq_getElem hi, e])
  exact ⟨t, r, g t (List.mem_of_getElem? ht)⟩
/-- a term of the law, wide or not -/
structure FitT (K : PySem.W.Frag) (H : Hp) (ss : List Str) (v : V) (t : Tm) : Prop where
  at' : TmAt K H 12 v t
  vok : VOk 12 t
  fin : ∀ s ∈ t.flat, s ∈ ss
  bt : t.bt 40 ≤ 2705
  size : t.size ≤ 40
  wt : WT ss 4 t
theorem flats_in {ss : List Str} : ∀ {n : Nat} {t : Tm}, Good ss n t → ∀ s ∈ t.flat, s ∈ ss
  | 0, _, h => h.elim
  | n + 1, .ev s, h => fun x hx => by rw [Tm.flat] at hx; rw [List.mem_singleton.mp hx]; exact h
  | n + 1, .nd k ts, h => fun x hx => by
    rw [Tm.flat] at hx
    have go : ∀ us : List Tm, (∀ u ∈ us, ∀ s ∈ u.flat, s ∈ ss) → ∀ x ∈ Tm.flats us, x ∈ ss := by
      intro us
      induction us with
      | nil => intro _ x hx; rw [Tm.flats] at hx; cases hx
      | cons u us ih =>
        intro hh x hx
        rw [Tm.flats] at hx
        rcases List.mem_append.mp hx with z | z
        · exact hh u List.mem_cons_self x z
        · exact ih (fun v hv => hh v (List.mem_cons_of_mem _ hv)) x z
    exact go ts (fun u hu => flats_in (h.2 u hu)) x hx
/-! ### weights -/
theorem toR_red {i S : Int} (hS : S ≠ 0) : toR (red i S) = Rat.divInt i S := by rw [red_R hS, toR_ofR]
theorem sum_div (S : Int) : ∀ is : List Int, (is.map fun i => Rat.divInt i S).sum = Rat.divInt is.sum S
  | [] => by rw [List.map_nil, List.sum_nil, List.sum_nil, Rat.zero_divInt]
  | i :: is => by
    rw [List.map_cons, List.sum_cons, List.sum_cons, sum_div S is, Rat.divInt_eq_div, Rat.divInt_eq_div, Rat.divInt_eq_div, Rat.intCast_add]
    grind
theorem ints_pos : ∀ {is : List Int}, (∀ i ∈ is, 1 ≤ i ∧ i ≤ 4) → is ≠ [] → 0 < is.sum
  | [], _, h => absurd rfl h
  | [i], h, _ => by have := h i List.mem_cons_self; simp; omega
  | i :: j :: is, h, _ => by
    have h1 := h i List.mem_cons_self
    have h2 := ints_pos (is := j :: is) (fun k hk => h k (List.mem_cons_of_mem _ hk)) (by simp)
    rw [List.sum_cons]
    omega
theorem ShW.nice {ws : List QQ} (h : ShW ws) (n0 : ws ≠ []) : (∀ w ∈ ws.map toR, 0 ≤ w) ∧ (ws.map toR).sum = 1 := by
  obtain ⟨is, hi, _, rfl⟩ := h
  have ne : is ≠ [] := fun z => n0 (by rw [z]; rfl)
  have S0 := ints_pos hi ne
  have e : (is.map fun i => red i is.sum).map toR = is.map fun i => Rat.divInt i is.sum := by
    rw [List.map_map]
    exact List.map_congr_left fun i _ => toR_red (by omega)
  rw [e]
  refine ⟨fun w hw => ?_, ?_⟩
  · obtain ⟨i, hm, rfl⟩ := List.mem_map.mp hw
    exact (Rat.divInt_nonneg_iff_of_pos_right S0).mpr (by have := hi i hm; omega)
  · rw [sum_div, Rat.divInt_eq_div]
    have hz : ((is.sum : Int) : Rat) ≠ 0 := fun z => by
      have : is.sum = 0 := by exact_mod_cast z
      omega
    grind
/-! ### terms that may be malformed -/
inductive Rk where
  | ev (ss : List Str) | dl (f : Option QQ) | mx (ws : List QQ) | nn (k : Str)
inductive Rw where
  | mk (k : Rk) (ts : List Rw) : Rw
def Rw.subs : Rw → List Rw
  | .mk _ ts => ts
def Rw.kd : Rw → Rk
  | .mk k _ => k
mutual
def Rw.size : Rw → Nat
  | .mk _ ts => 1 + Rw.sizes ts
def Rw.sizes : List Rw → Nat
  | [] => 0
  | t :: ts => t.size + Rw.sizes ts
end
mutual
def Rw.depth : Rw → Nat
  | .mk _ ts => 1 + Rw.depths ts
def Rw.depths : List Rw → Nat
  | [] => 0
  | t :: ts => Nat.max t.depth (Rw.depths ts)
end
theorem Rw.size_eq (t : Rw) : t.size = 1 + Rw.sizes t.subs := by cases t; rw [Rw.size]; rfl
theorem Rw.sizes_app : ∀ a b : List Rw, Rw.sizes (a ++ b) = Rw.sizes a + Rw.sizes b
  | [], b => by rw [List.nil_append, Rw.sizes]; omega
  | x :: a, b => by rw [List.cons_append, Rw.sizes, Rw.sizes, Rw.sizes_app a b]; omega
theorem Rw.sizes_len : ∀ ts : List Rw, ts.length ≤ Rw.sizes ts
  | [] => Nat.zero_le _
  | t :: ts => by
    have := Rw.sizes_len ts
    rw [Rw.sizes, List.length_cons, t.size_eq]
    omega
def fracB (f : QQ) : Bool := (decide (f.1.natAbs ≤ 999999999999) && (decide (1 ≤ f.2) && decide (f.2 ≤ 999999999999))) && decide (red f.1 f.2 = f)
def evB : List Str → Bool
  | [s] => nameB s
  | _ => false
def formK : Rk → Nat → Bool
  | .ev ss, _ => evB ss
  | .dl none, _ => false
  | .dl (some f), _ => fracB f
  | .mx ws, m => (decide (1 ≤ m) && decide (m ≤ 6)) && ((ws.all fun w => fracB w && decide (0 < w.1)) && decide (ws.foldl radd (0, 1) = (1, 1)))
  | .nn k, m => if k = "median" then decide (m = 3) else (decide (k = "max") || decide (k = "min")) && (decide (1 ≤ m) && decide (m ≤ 6))
def Rw.form (t : Rw) : Bool := formK t.kd t.subs.length
def isT : Nat → Rw → Bool
  | 0, _ => false
  | n + 1, t => t.form && t.subs.all (isT n)
/-- level by level -/
def bfs : Nat → List Rw → Nat → Bool
  | 0, l, _ => l.isEmpty
  | n + 1, l, s => l.isEmpty || (decide (s + l.length ≤ 40) && (l.all Rw.form && bfs n (l.flatMap Rw.subs) (s + l.length)))
theorem bfs_succ (n : Nat) (l : List Rw) (s : Nat) : bfs (n + 1) l s = (l.isEmpty || (decide (s + l.length ≤ 40) && (l.all Rw.form && bfs n (l.flatMap Rw.subs) (s + l.length)))) := rfl
theorem sizes_flat : ∀ l : List Rw, Rw.sizes l = l.length + Rw.sizes (l.flatMap Rw.subs)
  | [] => by rw [Rw.sizes]; rfl
  | t :: l => by
    have := sizes_flat l
    rw [List.flatMap_cons, Rw.sizes, Rw.sizes_app, List.length_cons, t.size_eq]
    omega
theorem bfs_eq : ∀ (n : Nat) (l : List Rw) (s : Nat), s ≤ 40 → bfs n l s = (l.all (isT n) && decide (s + Rw.sizes l ≤ 40))
  | 0, l, s, hs => by
    unfold bfs
    cases l with
    | nil => rw [Rw.sizes, decide_eq_true (by omega)]; rfl
    | cons t l => rfl
  | n + 1, l, s, hs => by
    unfold bfs
    cases l with
    | nil => rw [Rw.sizes, decide_eq_true (show s + 0 ≤ 40 by omega)]; rfl
    | cons t l =>
      have hl := Rw.sizes_len (t :: l)
      show (decide (s + (t :: l).length ≤ 40) && _) = _
      by_cases h : s + (t :: l).length ≤ 40
      · rw [decide_eq_true h, bfs_eq n _ _ h, Bool.true_and]
        have e : s + Rw.sizes (t :: l) = s + (t :: l).length + Rw.sizes ((t :: l).flatMap Rw.subs) := by rw [sizes_flat]; omega
        rw [e, ← Bool.and_assoc]
        congr 1
        have key : ∀ m : List Rw, (m.all Rw.form && (m.flatMap Rw.subs).all (isT n)) = m.all (isT (n + 1)) := by
          intro m
          induction m with
          | nil => rfl
          | cons x m ih =>
            rw [List.flatMap_cons, List.all_append, List.all_cons, List.all_cons, ← ih]
            show _ = (x.form && x.subs.all (isT n) && _)
            cases x.form <;> cases (x.subs.all (isT n)) <;> cases (m.all Rw.form) <;> cases ((m.flatMap Rw.subs).all (isT n)) <;> rfl
        exact key (t :: l)
      · rw [decide_eq_false h, Bool.false_and, decide_eq_false (show ¬ s + Rw.sizes (t :: l) ≤ 40 by omega), Bool.and_false]
/-! ### in memory -/
def All3 (R : V → Rw → Prop) (xs : List V) (ts : List Rw) : Prop := xs.length = ts.length ∧ ∀ (i : Nat) x t, xs[i]? = some x → ts[i]? = some t → R x t
theorem All3.mono {R S : V → Rw → Prop} {xs : List V} {ts : List Rw} (h : All3 R xs ts) (k : ∀ x t, R x t → S x t) : All3 S xs ts := ⟨h.1, fun i x t a b => k x t (h.2 i x t a b)⟩
theorem All3.nil {R : V → Rw → Prop} : All3 R [] [] := ⟨rfl, fun i x t h => by cases h⟩
theorem All3.cons {R : V → Rw → Prop} {x : V} {t : Rw} {xs : List V} {ts : List Rw} (k : R x t) (h : All3 R xs ts) : All3 R (x :: xs) (t :: ts) :=
  ⟨by rw [List.length_cons, List.length_cons, h.1], fun i y u a b => by
    cases i with
    | zero => cases a; cases b; exact k
    | succ i => exact h.2 i y u a b⟩
theorem All3.one {R : V → Rw → Prop} {x : V} {t : Rw} (k : R x t) : All3 R [x] [t] := All3.cons k All3.nil
theorem All3.at {R : V → Rw → Prop} {xs : List V} {ts : List Rw} (h : All3 R xs ts) {i : Nat} {x : V} (hx : xs[i]? = some x) : ∃ t, ts[i]? = some t ∧ R x t := by
  have l : i < ts.length := by rw [← h.1]; exact (List.getElem?_eq_some_iff.mp hx).1
  exact ⟨ts[i], List.getElem?_eq_getElem l, h.2 i x _ hx (List.getElem?_eq_getElem l)⟩
theorem All3.app {R : V → Rw → Prop} {xs ys : List V} {ts us : List Rw} (a : All3 R xs ts) (b : All3 R ys us) : All3 R (xs ++ ys) (ts ++ us) := by
  refine ⟨by rw [List.length_append, List.length_append, a.1, b.1], fun i x t h1 h2 => ?_⟩
  by_cases hi : i < xs.length
  · rw [List.getElem?_append_left hi] at h1
    rw [List.getElem?_append_left (by rw [← a.1]; exact hi)] at h2
    exact a.2 i x t h1 h2
  · rw [List.getElem?_append_right (by omega)] at h1
    rw [List.getElem?_append_right (by rw [← a.1]; omega), ← a.1] at h2
    exact b.2 _ x t h1 h2
theorem All3.rep {R : V → Rw → Prop} {x : V} {t : Rw} (k : R x t) : ∀ n, All3 R (List.replicate n x) (List.replicate n t)
  | 0 => All3.nil
  | n + 1 => All3.cons k (All3.rep k n)
structure FrW (K : PySem.W.Frag) (H : Hp) (v : V) (f : QQ) : Prop where
  fr : Fr K H v f.1 f.2
  nB : f.1.natAbs < 2 ^ 120
  dB : f.2.natAbs < 2 ^ 120
def RNode (K : PySem.W.Frag) (H : Hp) (v : V) : Rk → List V → Prop
  | .ev ss, xs => xs = [] ∧ ss.length ≤ 2000 ∧ (∀ s ∈ ss, s.length ≤ 4000) ∧ ∃ p, v = .ref p ∧ SqT K H p (.str "event" :: ss.map V.str)
  | .dl none, xs => ∃ p x, xs = [x] ∧ v = .ref p ∧ SqT K H p [.str "delay", x]
  | .dl (some f), xs => ∃ p x fv, xs = [x] ∧ v = .ref p ∧ SqT K H p [.str "delay", x, fv] ∧ FrW K H fv f
  | .mx ws, xs => ∃ p ys, v = .ref p ∧ SqT K H p (.str "mix" :: ys) ∧ ys.length = xs.length ∧ ws.length = xs.length ∧ ∀ (i : Nat) y x f, ys[i]? = some y → xs[i]? = some x → ws[i]? = some f → ∃ q wv, y = .ref q ∧ SqT K H q [wv, x] ∧ FrW K H wv f
  | .nn k, xs => k ≠ "event" ∧ k ≠ "delay" ∧ k ≠ "mix" ∧ ∃ p, v = .ref p ∧ SqT K H p (.str k :: xs)
def RwAt (K : PySem.W.Frag) (H : Hp) : Nat → V → Rw → Prop
  | 0, _, _ => False
  | n + 1, v, .mk k ts => ts.length ≤ 2000 ∧ ∃ xs, RNode K H v k xs ∧ All3 (RwAt K H n) xs ts
section
variable {K : PySem.W.Frag} {H H' : Hp}
theorem FrW.imp {v : V} {f : QQ} (h : FrW K H v f) (sT : ∀ p xs, SqT K H p xs → SqT K H' p xs) : FrW K H' v f := ⟨(by obtain ⟨p, e, z⟩ := h.fr; exact ⟨p, e, sT _ _ z⟩), h.nB, h.dB⟩
theorem RNode.imp (sT : ∀ p xs, SqT K H p xs → SqT K H' p xs) {v : V} {k : Rk} {xs : List V} (h : RNode K H v k xs) : RNode K H' v k xs := by
  match k, h with
  | .ev ss, ⟨a, b, c, p, e, z⟩ => exact ⟨a, b, c, p, e, sT _ _ z⟩
  | .dl none, ⟨p, x, e1, e2, z⟩ => exact ⟨p, x, e1, e2, sT _ _ z⟩
  | .dl (some f), ⟨p, x, fv, e1, e2, z, w⟩ => exact ⟨p, x, fv, e1, e2, sT _ _ z, w.imp sT⟩
  | .mx ws, ⟨p, ys, e, z, l1, l2, h⟩ =>
    refine ⟨p, ys, e, sT _ _ z, l1, l2, fun i y x f a b c => ?_⟩
    obtain ⟨q, wv, e', h3, h4⟩ := h i y x f a b c
    exact ⟨q, wv, e', sT _ _ h3, h4.imp sT⟩
  | .nn k, ⟨a, b, c, p, e, z⟩ => exact ⟨a, b, c, p, e, sT _ _ z⟩
theorem RwAt.imp (sT : ∀ p xs, SqT K H p xs → SqT K H' p xs) : ∀ {n : Nat} {v : V} {t : Rw}, RwAt K H n v t → RwAt K H' n v t
  | 0, _, _, h => h
  | n + 1, v, .mk k ts, h => by
    obtain ⟨l, xs, h1, h2⟩ := h
    exact ⟨l, xs, h1.imp sT, h2.mono fun x t z => RwAt.imp sT z⟩
theorem RwAt.same (s : Same H H') {n : Nat} {v : V} {t : Rw} (h : RwAt K H n v t) : RwAt K H' n v t := h.imp fun _ _ z => Same.T s z
theorem RwAt.kp {r : Addr} (R : Rg H r) (k : Kp r H H') {n : Nat} {v : V} {t : Rw} (h : RwAt K H n v t) : RwAt K H' n v t := h.imp fun _ _ z => RgT R k z
theorem sqPut {D p : Addr} {l l' xs : List V} (h : SqT K H p xs) (hD : H D = some (.lst l)) : SqT K (upd H D (.lst l')) p xs := by
  rcases h with (z | ⟨o, z⟩) | z
  · exact .inl (.inl (by rw [upd_ne (ne_of z hD (fun y => by cases y))]; exact z))
  · exact .inl (.inr ⟨o, by rw [upd_ne (ne_of z hD (fun y => by cases y))]; exact z⟩)
  · exact .inr z
theorem RwAt.put {D : Addr} {l l' : List V} (hD : H D = some (.lst l)) {n : Nat} {v : V} {t : Rw} (h : RwAt K H n v t) : RwAt K (upd H D (.lst l')) n v t := h.imp fun _ _ z => sqPut z hD
theorem RwAt.up : ∀ {n : Nat} {v : V} {t : Rw}, RwAt K H n v t → RwAt K H (n + 1) v t
  | 0, _, _, h => h.elim
  | n + 1, v, .mk k ts, h => by
    obtain ⟨l, xs, h1, h2⟩ := h
    exact ⟨l, xs, h1, h2.mono fun x t z => RwAt.up z⟩
theorem RwAt.le {n m : Nat} (l : n ≤ m) {v : V} {t : Rw} (h : RwAt K H n v t) : RwAt K H m v t := by
  induction l with
  | refl => exact h
  | step _ ih => exact ih.up
end
/-- a tuple that begins with a text, n items in all -/
theorem RwAt.hd {K : PySem.W.Frag} {H : Hp} {n : Nat} {v : V} {t : Rw} (h : RwAt K H (n + 1) v t) : ∃ p k ys, v = .ref p ∧ SqT K H p (.str k :: ys) ∧ ys.length ≤ 2000 := by
  match t, h with
  | .mk (.ev ss) ts, ⟨l, xs, ⟨_, b, _, p, e, z⟩, h2⟩ => exact ⟨p, _, _, e, z, by rw [List.length_map]; exact b⟩
  | .mk (.dl none) ts, ⟨l, xs, ⟨p, x, e1, e2, z⟩, h2⟩ => exact ⟨p, _, _, e2, z, by show 1 ≤ 2000; decide⟩
  | .mk (.dl (some f)) ts, ⟨l, xs, ⟨p, x, fv, e1, e2, z, w⟩, h2⟩ => exact ⟨p, _, _, e2, z, by show 2 ≤ 2000; decide⟩
  | .mk (.mx ws) ts, ⟨l, xs, ⟨p, ys, e, z, l1, l2, _⟩, h2⟩ => exact ⟨p, _, _, e, z, by rw [l1, h2.1]; exact l⟩
  | .mk (.nn k) ts, ⟨l, xs, ⟨_, _, _, p, e, z⟩, h2⟩ => exact ⟨p, _, _, e, z, by rw [h2.1]; exact l⟩
theorem FrW.same {K : PySem.W.Frag} {H H' : Hp} {v : V} {f : QQ} (h : FrW K H v f) (s : Same H H') : FrW K H' v f := h.imp fun _ _ z => Same.T s z
/-- from a drawn term -/
def Kd.raw : Kd → Rk
  | .delay f => .dl (some f) | .max => .nn "max" | .min => .nn "min" | .median => .nn "median" | .mix ws => .mx ws
mutual
def Tm.raw : Tm → Rw
  | .ev s => .mk (.ev [s]) []
  | .nd k ts => .mk k.raw (Tm.raws ts)
def Tm.raws : List Tm → List Rw
  | [] => []
  | t :: ts => t.raw :: Tm.raws ts
end
theorem raws_map : ∀ ts : List Tm, Tm.raws ts = ts.map Tm.raw
  | [] => by rw [Tm.raws]; rfl
  | t :: ts => by rw [Tm.raws, raws_map ts]; rfl
theorem TmAt.raw {K : PySem.W.Frag} {H : Hp} {ss : List Str} (hs : ∀ s ∈ ss, s.length ≤ 4000) : ∀ {n : Nat} {v : V} {t : Tm}, TmAt K H n v t → Good ss n t → RwAt K H n v t.raw
  | 0, _, _, h, _ => h.elim
  | n + 1, v, .ev s, h, g => by
    obtain ⟨p, e, z⟩ := h
    rw [Tm.raw]
    refine ⟨Nat.zero_le _, [], ⟨rfl, by show 1 ≤ 2000; decide, fun x hx => ?_, p, e, z⟩, All3.nil⟩
    rw [List.mem_singleton.mp hx]; exact hs s g
  | n + 1, v, .nd k ts, h, g => by
    obtain ⟨xs, h1, h2⟩ := h
    have h3 := g.1.three
    rw [Tm.raw, raws_map]
    have fw : ∀ {v f}, FrB K H v f.1 f.2 40 → FrW K H v f := fun z => ⟨z.fr, Nat.lt_of_lt_of_le z.nB (Nat.pow_le_pow_right (by decide) (by decide)), Nat.lt_of_lt_of_le z.dB (Nat.pow_le_pow_right (by decide) (by decide))⟩
    refine ⟨by rw [List.length_map]; omega, xs, ?_, ?_⟩
    · cases k with
      | delay f => obtain ⟨p, x, fv, e1, e2, z, w⟩ := h1; exact ⟨p, x, fv, e1, e2, z, fw w⟩
      | max => obtain ⟨p, e, z⟩ := h1; exact ⟨by decide +kernel, by decide +kernel, by decide +kernel, p, e, z⟩
      | min => obtain ⟨p, e, z⟩ := h1; exact ⟨by decide +kernel, by decide +kernel, by decide +kernel, p, e, z⟩
      | median => obtain ⟨p, e, z⟩ := h1; exact ⟨by decide +kernel, by decide +kernel, by decide +kernel, p, e, z⟩
      | mix ws =>
        obtain ⟨p, ys, e, z, l1, l2, hm⟩ := h1
        refine ⟨p, ys, e, z, l1, l2, fun i y x f a b c => ?_⟩
        obtain ⟨q, wv, e', h3, h4⟩ := hm i y x f a b c
        exact ⟨q, wv, e', h3, fw h4⟩
    · refine ⟨by rw [List.length_map]; exact h2.1, fun i x t a b => ?_⟩
      rw [List.getElem?_map] at b
      cases e : ts[i]? with
      | none => rw [e] at b; cases b
      | some u =>
        rw [e] at b
        cases b
        exact TmAt.raw hs (h2.2 i x u a e) (g.2 u (List.mem_of_getElem? e))
mutual
theorem raw_size : ∀ t : Tm, t.raw.size = t.size
  | .ev s => by rw [Tm.raw, Rw.size, Rw.sizes, Tm.size]
  | .nd k ts => by rw [Tm.raw, Rw.size, Tm.size, raw_sizes ts]
theorem raw_sizes : ∀ ts : List Tm, Rw.sizes (Tm.raws ts) = Tm.sizes ts
  | [] => by rw [Tm.raws, Rw.sizes, Tm.sizes]
  | t :: ts => by rw [Tm.raws, Rw.sizes, Tm.sizes, raw_size t, raw_sizes ts]
end
theorem sqL_ty {K : PySem.W.Frag} {H : Hp} {a : Addr} {xs : List V} (h : SqT K H a xs) : TyX K H (.ref a) (.type "tuple") := tyT h
theorem absL (i : Int) : decide ((if i < 0 then -i else i) ≤ 999999999999) = decide (i.natAbs ≤ 999999999999) := decide_eq_decide.mpr (by split <;> omega)
theorem fr_eqv (f g : QQ) : PyData.eqv (.tuple [.int f.1, .int f.2]) (.tuple [.int g.1, .int g.2]) = decide (f = g) := by
  simp only [PyData.eqv, PyData.eqvAll, Bool.and_true]
  by_cases h1 : f.1 = g.1
  · by_cases h2 : f.2 = g.2
    · rw [decide_eq_true (Prod.ext h1 h2)]; simp [h1, h2]
    · rw [decide_eq_false (fun z => h2 (by rw [z]))]; simp [h2]
  · rw [decide_eq_false (fun z => h1 (by rw [z]))]; simp [h1]
theorem fracB_low {f : QQ} (h : fracB f = true) : 0 < f.2 ∧ Int.gcd f.1 f.2 = 1 := by
  unfold fracB at h
  rw [Bool.and_eq_true, Bool.and_eq_true, Bool.and_eq_true, decide_eq_true_eq, decide_eq_true_eq, decide_eq_true_eq, decide_eq_true_eq] at h
  obtain ⟨⟨h1, h2, h3⟩, h4⟩ := h
  refine ⟨by omega, ?_⟩
  have g := red_gcd (n := f.1) (d := f.2) (by omega)
  rw [h4] at g
  exact g
theorem fracB_bd {f : QQ} (h : fracB f = true) : f.1.natAbs < 2 ^ 40 ∧ f.2.natAbs < 2 ^ 40 := by
  unfold fracB at h
  rw [Bool.and_eq_true, Bool.and_eq_true, Bool.and_eq_true, decide_eq_true_eq, decide_eq_true_eq, decide_eq_true_eq, decide_eq_true_eq] at h
  obtain ⟨⟨h1, h2, h3⟩, h4⟩ := h
  exact ⟨by omega, by omega⟩
/-- the direct subterms, as a new list -/
def spSubsR (K : PySem.W.Frag) : Sp := fun vs H Q _ => ∃ (v : V) (t : Rw) (n : Nat), vs = [v] ∧ RwAt K H (n + 1) v t ∧ ∀ l H' xs, Same H H' → H l = none → H' l = some (.lst xs) → All3 (RwAt K H' n) xs t.subs → Q (.ref l) H'
theorem in2 (kk : Str) : inV (.str kk) [.str "max", .str "min"] = (decide (kk = "max") || decide (kk = "min")) := by
  have e := in_strs kk ["max", "min"]
  have e' : inV (.str kk) [.str "max", .str "min"] = decide (kk ∈ (["max", "min"] : List Str)) := e
  rw [e']
  by_cases h1 : kk = "max"
  · rw [decide_eq_true h1, Bool.true_or]
    exact decide_eq_true (by rw [h1]; exact List.mem_cons_self)
  · rw [decide_eq_false h1, Bool.false_or]
    refine decide_eq_decide.mpr ⟨fun h => ?_, fun h => by rw [h]; exact List.mem_cons_of_mem _ List.mem_cons_self⟩
    rcases List.mem_cons.mp h with z | z
    · exact absurd z h1
    · exact List.mem_singleton.mp z
def RAr : Nat → Rw → Prop
  | 0, _ => False
  | n + 1, t => t.subs.length ≤ 2000 ∧ ∀ u ∈ t.subs, RAr n u
theorem RwAt.ar {K : PySem.W.Frag} {H : Hp} : ∀ {n : Nat} {v : V} {t : Rw}, RwAt K H n v t → RAr n t
  | 0, _, _, h => h
  | n + 1, v, .mk k ts, h => by
    obtain ⟨l, xs, h1, h2⟩ := h
    refine ⟨l, fun u hu0 => ?_⟩
    have hu : u ∈ ts := hu0
    obtain ⟨i, hi, e⟩ := List.getElem_of_mem hu
    have hu' : ts[i]? = some u := by rw [List.getElem?_eq_getElem hi, e]
    have hx : xs[i]? = some (xs[i]'(by rw [h2.1]; exact hi)) := List.getElem?_eq_getElem _
    exact RwAt.ar (h2.2 i _ u hx hu')
def spSizeR (K : PySem.W.Frag) : Nat → Sp
  | 0 => fun _ _ _ _ => False
  | n + 1 => fun vs H Q _ => ∃ (v : V) (t : Rw), vs = [v] ∧ RwAt K H (n + 1) v t ∧ ∀ H', Same H H' → Q (.int (t.size : Nat)) H'
def spDepthR (K : PySem.W.Frag) : Nat → Sp
  | 0 => fun _ _ _ _ => False
  | n + 1 => fun vs H Q _ => ∃ (v : V) (t : Rw), vs = [v] ∧ RwAt K H (n + 1) v t ∧ ∀ H', Same H H' → Q (.int (t.depth : Nat)) H'
theorem Rw.sizes_eq : ∀ ts : List Rw, Rw.sizes ts = (ts.map Rw.size).sum
  | [] => by rw [Rw.sizes]; rfl
  | t :: ts => by rw [Rw.sizes, Rw.sizes_eq ts, List.map_cons, List.sum_cons]
theorem Rw.depth_eq (t : Rw) : t.depth = 1 + Rw.depths t.subs := by cases t; rw [Rw.depth]; rfl
theorem rdepths_ge : ∀ {ts : List Rw} {u : Rw}, u ∈ ts → u.depth ≤ Rw.depths ts
  | t :: ts, u, h => by
    rw [Rw.depths]
    rcases List.mem_cons.mp h with z | z
    · rw [z]; exact Nat.le_max_left _ _
    · exact Nat.le_trans (rdepths_ge z) (Nat.le_max_right _ _)
theorem rdepths_in : ∀ {ts : List Rw}, ts ≠ [] → ∃ u ∈ ts, Rw.depths ts = u.depth
  | [], h => absurd rfl h
  | t :: ts, _ => by
    rw [Rw.depths]
    by_cases q : ts = []
    · subst q
      exact ⟨t, List.mem_cons_self, by rw [Rw.depths]; exact Nat.max_eq_left (Nat.zero_le _)⟩
    · obtain ⟨u, hu, e⟩ := rdepths_in q
      by_cases c : Rw.depths ts ≤ t.depth
      · exact ⟨t, List.mem_cons_self, Nat.max_eq_left c⟩
      · exact ⟨u, List.mem_cons_of_mem _ hu, by rw [← e]; exact Nat.max_eq_right (by omega)⟩
theorem rdepths_max {ts : List Rw} {m : Int} (hm : m ∈ ts.map (fun u => (u.depth : Int))) (hk : ∀ k ∈ ts.map (fun u => (u.depth : Int)), k ≤ m) : (Rw.depths ts : Int) = m := by
  obtain ⟨u, hu, rfl⟩ := List.mem_map.mp hm
  have h1 := rdepths_ge hu
  obtain ⟨v, hv, e⟩ := rdepths_in (ts := ts) (fun z => by rw [z] at hu; cases hu)
  have h2 := hk _ (List.mem_map.mpr ⟨v, hv, rfl⟩)
  have h2' : (v.depth : Int) ≤ (u.depth : Int) := h2
  omega
def spIsT (K : PySem.W.Frag) : Nat → Sp
  | 0 => fun _ _ _ _ => False
  | n + 1 => fun vs H Q _ => ∃ (v : V) (t : Rw) (d m : Nat), vs = [v, .int (d : Nat)] ∧ d ≤ n ∧ d < m ∧ RwAt K H m v t ∧ ∀ H', Same H H' → Q (.bl (isT d t)) H'
def Rk.nm : Rk → Str
  | .ev _ => "event" | .dl _ => "delay" | .mx _ => "mix" | .nn k => k
/-- the items behind the name, and the subterms among them -/
def RRest (K : PySem.W.Frag) (H : Hp) : Rk → List V → List V → Prop
  | .ev ss, ys, xs => xs = [] ∧ ss.length ≤ 2000 ∧ (∀ s ∈ ss, s.length ≤ 4000) ∧ ys = ss.map V.str
  | .dl none, ys, xs => ∃ x, xs = [x] ∧ ys = [x]
  | .dl (some f), ys, xs => ∃ x fv, xs = [x] ∧ ys = [x, fv] ∧ FrW K H fv f
  | .mx ws, ys, xs => ys.length = xs.length ∧ ws.length = xs.length ∧ ∀ (i : Nat) y x f, ys[i]? = some y → xs[i]? = some x → ws[i]? = some f → ∃ q wv, y = .ref q ∧ SqT K H q [wv, x] ∧ FrW K H wv f
  | .nn k, ys, xs => k ≠ "event" ∧ k ≠ "delay" ∧ k ≠ "mix" ∧ ys = xs
theorem RNode.nm {K : PySem.W.Frag} {H : Hp} {v : V} {k : Rk} {xs : List V} (h : RNode K H v k xs) : ∃ p ys, v = .ref p ∧ SqT K H p (.str k.nm :: ys) ∧ RRest K H k ys xs := by
  match k, h with
  | .ev ss, ⟨a, b, c, p, e, z⟩ => exact ⟨p, _, e, z, a, b, c, rfl⟩
  | .dl none, ⟨p, x, e1, e2, z⟩ => exact ⟨p, _, e2, z, x, e1, rfl⟩
  | .dl (some f), ⟨p, x, fv, e1, e2, z, w⟩ => exact ⟨p, _, e2, z, x, fv, e1, rfl, w⟩
  | .mx ws, ⟨p, ys, e, z, h⟩ => exact ⟨p, ys, e, z, h⟩
  | .nn k, ⟨a, b, c, p, e, z⟩ => exact ⟨p, _, e, z, a, b, c, rfl⟩
theorem RRest.nd {K : PySem.W.Frag} {H : Hp} {p : Addr} {k : Rk} {ys xs : List V} (h : RRest K H k ys xs) (z : SqT K H p (.str k.nm :: ys)) : RNode K H (.ref p) k xs := by
  match k, h with
  | .ev ss, ⟨a, b, c, e⟩ => subst e; exact ⟨a, b, c, p, rfl, z⟩
  | .dl none, ⟨x, e1, e⟩ => subst e; exact ⟨p, x, e1, rfl, z⟩
  | .dl (some f), ⟨x, fv, e1, e, w⟩ => subst e; exact ⟨p, x, fv, e1, rfl, z, w⟩
  | .mx ws, h => exact ⟨p, ys, rfl, z, h⟩
  | .nn k, ⟨a, b, c, e⟩ => subst e; exact ⟨a, b, c, p, rfl, z⟩
theorem form_nil {K : PySem.W.Frag} {H : Hp} {k : Rk} {xs : List V} (h : RRest K H k [] xs) : formK k xs.length = false := by
  match k, h with
  | .ev [], _ => rfl
  | .ev (s :: ss), ⟨_, _, _, e⟩ => cases e
  | .dl none, ⟨x, e1, e⟩ => cases e
  | .dl (some f), ⟨x, fv, e1, e, w⟩ => cases e
  | .mx ws, ⟨l1, l2, _⟩ => rw [← l1]; rfl
  | .nn k, ⟨_, _, _, e⟩ =>
    subst e
    show (if k = "median" then decide (0 = 3) else (decide (k = "max") || decide (k = "min")) && (decide (1 ≤ 0) && decide (0 ≤ 6))) = false
    split
    · rfl
    · exact Bool.and_false _
def kinds : List Str := ["event", "delay", "max", "min", "median", "mix"]
theorem form_kind {k : Rk} {n : Nat} (h : k.nm ∉ kinds) : formK k n = false := by
  match k with
  | .ev _ => exact absurd List.mem_cons_self h
  | .dl _ => exact absurd (List.mem_cons_of_mem _ List.mem_cons_self) h
  | .mx _ => exact absurd (by decide +kernel : ("mix" : Str) ∈ kinds) h
  | .nn k =>
    have h1 : k ≠ "median" := fun e => h (by rw [e]; exact (by decide +kernel : ("median" : Str) ∈ kinds))
    have h2 : k ≠ "max" := fun e => h (by rw [e]; exact (by decide +kernel : ("max" : Str) ∈ kinds))
    have h3 : k ≠ "min" := fun e => h (by rw [e]; exact (by decide +kernel : ("min" : Str) ∈ kinds))
    show (if k = "median" then _ else _) = false
    rw [if_neg h1, decide_eq_false h2, decide_eq_false h3]
    rfl
theorem go_ifS {c : TT} {t u : TS} {D : Ends} {σ : L2.St} {H : Hp} (b : Bool) (H1 : Hp) (step : ∀ Q : Bool → Hp → Prop, Q b H1 → c σ H Q) (h : if b = true then t D σ H1 else u D σ H1) : tIfS c t u D σ H := step _ h
def wB (f : QQ) : Bool := fracB f && decide (0 < f.1)
def mixB (ws : List QQ) : Bool := (ws.all fun w => fracB w && decide (0 < w.1)) && decide (ws.foldl radd (0, 1) = (1, 1))
/-! ### ways into a term -/
def at? : Rw → List Nat → Option Rw
  | t, [] => some t
  | t, i :: is => t.subs[i]?.bind fun u => at? u is
def VI (is : List Nat) : List V := is.map fun (i : Nat) => V.int ((i : Nat) : Int)
/-- a tuple of the way ns, and behind it a way of t -/
def WayAt (K : PySem.W.Frag) (H : Hp) (t : Rw) (ns : List Nat) (x : V) : Prop := ∃ p is u, x = .ref p ∧ SqT K H p (VI (ns ++ is)) ∧ at? t is = some u
theorem WayAt.same {K : PySem.W.Frag} {H H' : Hp} {t : Rw} {ns : List Nat} {x : V} (h : WayAt K H t ns x) (s : Same H H') : WayAt K H' t ns x := by
  obtain ⟨p, is, u, e, z, a⟩ := h
  exact ⟨p, is, u, e, Same.T s z, a⟩
theorem WayAt.sub {K : PySem.W.Frag} {H : Hp} {t u : Rw} {i : Nat} {ns : List Nat} {x : V} (h : WayAt K H u (ns ++ [i]) x) (e : t.subs[i]? = some u) : WayAt K H t ns x := by
  obtain ⟨p, is, u', e', z, a⟩ := h
  exact ⟨p, i :: is, u', e', by rw [List.append_assoc] at z; exact z, by rw [at?, e]; exact a⟩
def spPaths (K : PySem.W.Frag) : Nat → Sp
  | 0 => fun _ _ _ _ => False
  | n + 1 => fun vs H Q _ => ∃ (v : V) (t : Rw) (q : Addr) (ns : List Nat), vs = [v, .ref q] ∧ RwAt K H (n + 1) v t ∧ SqT K H q (VI ns) ∧ ns.length + n ≤ 100 ∧ t.size ≤ 50000 ∧ ∀ l H' xs, Same H H' → H' l = some (.lst xs) → xs.length = t.size → (∀ x ∈ xs, WayAt K H' t ns x) → Q (.ref l) H'
theorem sizes_take : ∀ (ts : List Rw) (i : Nat) (u : Rw), ts[i]? = some u → Rw.sizes (ts.take (i + 1)) = Rw.sizes (ts.take i) + u.size
  | [], i, u, h => by cases h
  | t :: ts, 0, u, h => by cases h; rw [List.take_succ_cons, List.take_zero, List.take_zero, Rw.sizes, Rw.sizes, Rw.sizes]; omega
  | t :: ts, i + 1, u, h => by
    rw [List.take_succ_cons, List.take_succ_cons, Rw.sizes, Rw.sizes, sizes_take ts i u h]
    omega
theorem sizes_take_le (ts : List Rw) (i : Nat) : Rw.sizes (ts.take i) ≤ Rw.sizes ts := by
  have h := Rw.sizes_app (ts.take i) (ts.drop i)
  rw [List.take_append_drop] at h
  omega
theorem All3.get {R : V → Rw → Prop} {xs : List V} {ts : List Rw} (h : All3 R xs ts) {i : Nat} {t : Rw} (ht : ts[i]? = some t) : ∃ x, xs[i]? = some x ∧ R x t := by
  have l : i < xs.length := by rw [h.1]; exact (List.getElem?_eq_some_iff.mp ht).1
  exact ⟨xs[i], List.getElem?_eq_getElem l, h.2 i _ t (List.getElem?_eq_getElem l) ht⟩
theorem cat_way {K : PySem.W.Frag} {H : Hp} {Q : VK} {a b : Addr} {xs ys : List V} (ha : SqT K H a xs) (hb : SqT K H b ys) (hz : xs.length + ys.length ≤ sizeLine) (w : ∀ p H', Same H H' → SqT K H' p (xs ++ ys) → Q (.ref p) H') : rCatA K (.ref a) (.ref b) H Q := by
  refine ⟨a, b, xs, ys, rfl, rfl, ha, hb, hz, fun e => w b H (Same.refl H) (by rw [e]; exact hb), fun _ e => w a H (Same.refl H) (by rw [e, List.append_nil]; exact ha), fun _ _ p np => w p _ (Same.new np) (SqT.of upd_same)⟩
theorem at0 {α : Type} {xs : List α} {i : Nat} {x : α} (h : xs[i]? = some x) : atI xs (0 + (i : Int)) = some x := by rw [show (0 : Int) + (i : Int) = (i : Int) by omega]; exact atI_nat h
/-- replaced at a way: some term, whose size is bounded -/
def spReplace (K : PySem.W.Frag) : Nat → Sp
  | 0 => fun _ _ _ _ => False
  | n + 1 => fun vs H Q _ => ∃ (v : V) (t u : Rw) (q : Addr) (ns : List Nat) (o : V) (ot : Rw) (m : Nat), vs = [v, .ref q, o] ∧ RwAt K H (n + 1) v t ∧ SqT K H q (VI ns) ∧ at? t ns = some u ∧ RwAt K H m o ot ∧ ∀ x H' t', Same H H' → RwAt K H' (n + m) x t' → t'.size ≤ t.size + ot.size → Q x H'
def VD (is : List Nat) : List PyData := is.map fun (i : Nat) => PyData.int ((i : Nat) : Int)
theorem VD_lay : ∀ is : List Nat, PyData.canLayAll0 (VD is) = true
  | [] => by simp [VD, PyData.canLayAll0]
  | i :: is => by
    have := VD_lay is
    unfold VD at this ⊢
    rw [List.map_cons, PyData.canLayAll0, this]
    simp [PyData.canLay0]
theorem VD_depth : ∀ is : List Nat, PyData.depthAll (VD is) = 0
  | [] => by simp [VD, PyData.depthAll]
  | i :: is => by
    have := VD_depth is
    unfold VD at this ⊢
    rw [List.map_cons, PyData.depthAll, this]
    simp [PyData.depth]
theorem VD_shaped (is : List Nat) : SeqAt.shaped (.tuple (VD is)) = true := by
  unfold SeqAt.shaped
  rw [PyData.canLay0, VD_lay, PyData.depth, VD_depth]
  rfl
theorem VD_all {K : PySem.W.Frag} {H : Hp} : ∀ is : List Nat, DpAll K H (VI is) (VD is)
  | [] => .nil
  | i :: is => .cons (.int _) (VD_all is)
theorem at_cons {t u : Rw} {i : Nat} {is : List Nat} (h : at? t (i :: is) = some u) : ∃ t1, t.subs[i]? = some t1 ∧ at? t1 is = some u := by
  rw [at?] at h
  cases e : t.subs[i]? with
  | none => rw [e] at h; cases h
  | some t1 => rw [e] at h; exact ⟨t1, rfl, h⟩
theorem sizes_set : ∀ (ts : List Rw) (i : Nat) (u v : Rw), ts[i]? = some u → Rw.sizes (ts.set i v) + u.size = Rw.sizes ts + v.size
  | [], i, u, v, h => by cases h
  | t :: ts, 0, u, v, h => by cases h; rw [List.set_cons_zero, Rw.sizes, Rw.sizes]; omega
  | t :: ts, i + 1, u, v, h => by
    have := sizes_set ts i u v h
    rw [List.set_cons_succ, Rw.sizes, Rw.sizes]
    omega
theorem All3.set {R : V → Rw → Prop} {xs : List V} {ts : List Rw} (h : All3 R xs ts) (i : Nat) {x : V} {t : Rw} (k : R x t) : All3 R (xs.set i x) (ts.set i t) := by
  refine ⟨by rw [List.length_set, List.length_set]; exact h.1, fun j y u a b => ?_⟩
  rw [List.getElem?_set] at a b
  by_cases e : i = j
  · rw [if_pos e] at a b
    split at a
    · cases a
      split at b
      · cases b; exact k
      · cases b
    · cases a
  · rw [if_neg e] at a b
    exact h.2 j y u a b
/-- what stands at i in the tuple: the subterm itself, or a pair -/
def Slot (K : PySem.W.Frag) (H : Hp) (i : Nat) (val fr : V) : Rk → Prop
  | .mx ws => ∃ tp wv f, val = .ref tp ∧ SqT K H tp [wv, fr] ∧ ws[i]? = some f ∧ FrW K H wv f
  | _ => val = fr
theorem RRest.set {K : PySem.W.Frag} {H : Hp} {k : Rk} {ys xs : List V} {i : Nat} {val fr : V} (h : RRest K H k ys xs) (hi : i < xs.length) (hs : Slot K H i val fr k) : RRest K H k (ys.set i val) (xs.set i fr) := by
  match k, h, hs with
  | .ev ss, ⟨a, _⟩, _ => subst a; exact absurd hi (Nat.not_lt_zero _)
  | .dl none, ⟨x, e1, e2⟩, hs =>
    subst e1 e2
    have : i = 0 := by have : i < 1 := hi; omega
    subst this
    have hs' : val = fr := hs
    subst hs'
    exact ⟨val, rfl, rfl⟩
  | .dl (some f), ⟨x, fv, e1, e2, hf⟩, hs =>
    subst e1 e2
    have : i = 0 := by have : i < 1 := hi; omega
    subst this
    have hs' : val = fr := hs
    subst hs'
    exact ⟨val, fv, rfl, rfl, hf⟩
  | .mx ws, ⟨l1, l2, hm⟩, ⟨tp, wv, f, e, ht, hw, hf⟩ =>
    refine ⟨by rw [List.length_set, List.length_set]; exact l1, by rw [List.length_set]; exact l2, fun j y x g a b c => ?_⟩
    rw [List.getElem?_set] at a b
    by_cases q : i = j
    · subst q
      rw [if_pos rfl] at a b
      rw [if_pos (by omega)] at a b
      rw [hw] at c
      cases a
      cases b
      cases c
      exact ⟨tp, wv, e, ht, hf⟩
    · rw [if_neg q] at a b
      exact hm j y x g a b c
  | .nn k, ⟨n1, n2, n3, e⟩, hs =>
    have hs' : val = fr := hs
    subst e hs'
    exact ⟨n1, n2, n3, rfl⟩
theorem RRest.imp {K : PySem.W.Frag} {H H' : Hp} (sT : ∀ p xs, SqT K H p xs → SqT K H' p xs) {k : Rk} {ys xs : List V} (h : RRest K H k ys xs) : RRest K H' k ys xs := by
  match k, h with
  | .ev ss, h => exact h
  | .dl none, h => exact h
  | .dl (some f), ⟨x, fv, e1, e2, w⟩ => exact ⟨x, fv, e1, e2, w.imp sT⟩
  | .mx ws, ⟨l1, l2, h⟩ =>
    refine ⟨l1, l2, fun i y x f a b c => ?_⟩
    obtain ⟨q, wv, e', h3, h4⟩ := h i y x f a b c
    exact ⟨q, wv, e', sT _ _ h3, h4.imp sT⟩
  | .nn k, h => exact h
theorem RRest.len {K : PySem.W.Frag} {H : Hp} {k : Rk} {ys xs : List V} (h : RRest K H k ys xs) : xs.length ≤ ys.length := by
  match k, h with
  | .ev ss, ⟨a, _⟩ => rw [a]; exact Nat.zero_le _
  | .dl none, ⟨x, e1, e2⟩ => rw [e1, e2]; exact Nat.le_refl _
  | .dl (some f), ⟨x, fv, e1, e2, _⟩ => rw [e1, e2]; exact Nat.le_succ _
  | .mx ws, ⟨l1, _⟩ => rw [l1]; exact Nat.le_refl _
  | .nn k, ⟨_, _, _, e⟩ => rw [e]; exact Nat.le_refl _
theorem ixN_succ {n j : Nat} (h : j < n) : ixN (n + 1) (1 + (j : Int)) = some (j + 1) := by
  unfold ixN
  rw [if_pos (by omega), if_pos (by omega), show (1 + (j : Int)).toNat = j + 1 by omega]
theorem at1 {α : Type} {x y : α} {xs : List α} {i : Nat} (h : xs[i]? = some x) : atI (y :: xs) (1 + (i : Int)) = some x := by rw [show (1 : Int) + (i : Int) = ((i + 1 : Nat) : Int) by omega]; exact atI_nat h
theorem sizes_at : ∀ {ts : List Rw} {i : Nat} {u : Rw}, ts[i]? = some u → u.size ≤ Rw.sizes ts
  | [], i, u, h => by cases h
  | t :: ts, 0, u, h => by cases h; rw [Rw.sizes]; omega
  | t :: ts, i + 1, u, h => by have := sizes_at (ts := ts) h; rw [Rw.sizes]; omega
theorem at_size : ∀ {is : List Nat} {t u : Rw}, at? t is = some u → u.size ≤ t.size
  | [], t, u, h => by rw [at?] at h; cases h; exact Nat.le_refl _
  | i :: is, t, u, h => by
    obtain ⟨t1, h1, h2⟩ := at_cons h
    have := at_size h2
    have := sizes_at h1
    rw [t.size_eq]
    omega
theorem RwAt.low {K : PySem.W.Frag} {H : Hp} : ∀ {d n : Nat} {v : V} {t : Rw}, RwAt K H n v t → isT d t = true → RwAt K H d v t
  | 0, _, _, _, _, h => by cases h
  | d + 1, 0, _, _, h, _ => h.elim
  | d + 1, n + 1, v, .mk k ts, ⟨l, xs, h1, h2⟩, h => by
    have h' : (formK k ts.length && ts.all (isT d)) = true := h
    rw [Bool.and_eq_true] at h'
    exact ⟨l, xs, h1, h2.1, fun i x t a b => RwAt.low (h2.2 i x t a b) (List.all_eq_true.mp h'.2 t (List.mem_of_getElem? b))⟩
section
variable {K : PySem.W.Frag} {H H' : Hp} {p : Addr} {m : Nat} {x : V} {u : Rw}
theorem mkEv {ss : List Str} (l1 : ss.length ≤ 2000) (l2 : ∀ s ∈ ss, s.length ≤ 4000) (z : SqT K H p (.str "event" :: ss.map V.str)) : RwAt K H (m + 1) (.ref p) (.mk (.ev ss) []) := ⟨Nat.zero_le _, [], ⟨rfl, l1, l2, p, rfl, z⟩, All3.nil⟩
theorem mkDl {fv : V} {f : QQ} (z : SqT K H p [.str "delay", x, fv]) (hf : FrW K H fv f) (h : RwAt K H m x u) : RwAt K H (m + 1) (.ref p) (.mk (.dl (some f)) [u]) := ⟨by show 1 ≤ 2000; decide, [x], ⟨p, x, fv, rfl, rfl, z, hf⟩, All3.one h⟩
theorem mkD0 (z : SqT K H p [.str "delay", x]) (h : RwAt K H m x u) : RwAt K H (m + 1) (.ref p) (.mk (.dl none) [u]) := ⟨by show 1 ≤ 2000; decide, [x], ⟨p, x, rfl, rfl, z⟩, All3.one h⟩
theorem mkMx {q1 q2 : Addr} {w1 w2 : V} {f1 f2 : QQ} (z : SqT K H p [.str "mix", .ref q1, .ref q2]) (z1 : SqT K H q1 [w1, x]) (z2 : SqT K H q2 [w2, x]) (h1 : FrW K H w1 f1) (h2 : FrW K H w2 f2) (h : RwAt K H m x u) : RwAt K H (m + 1) (.ref p) (.mk (.mx [f1, f2]) [u, u]) := by
  refine ⟨by show 2 ≤ 2000; decide, [x, x], ⟨p, [.ref q1, .ref q2], rfl, z, rfl, rfl, fun i y x' f a b c => ?_⟩, All3.cons h (All3.one h)⟩
  match i, a, b, c with
  | 0, a, b, c => cases a; cases b; cases c; exact ⟨q1, w1, rfl, z1, h1⟩
  | 1, a, b, c => cases a; cases b; cases c; exact ⟨q2, w2, rfl, z2, h2⟩
theorem mkM0 (z : SqT K H p [.str "mix"]) : RwAt K H (m + 1) (.ref p) (.mk (.mx []) []) := ⟨Nat.zero_le _, [], ⟨p, [], rfl, z, rfl, rfl, fun i y x' f a b c => by cases a⟩, All3.nil⟩
theorem mkNn {k : Str} {xs : List V} {ts : List Rw} (n1 : k ≠ "event") (n2 : k ≠ "delay") (n3 : k ≠ "mix") (l : ts.length ≤ 2000) (z : SqT K H p (.str k :: xs)) (h : All3 (RwAt K H m) xs ts) : RwAt K H (m + 1) (.ref p) (.mk (.nn k) ts) := ⟨l, xs, ⟨n1, n2, n3, p, rfl, z⟩, h⟩
/-- some term, not deeper than m, of at most B parts -/
def Ok (K : PySem.W.Frag) (H : Hp) (m B : Nat) (x : V) : Prop := ∃ t, RwAt K H m x t ∧ t.size ≤ B
theorem Ok.same {B : Nat} (h : Ok K H m B x) (s : Same H H') : Ok K H' m B x := by
  obtain ⟨t, a, b⟩ := h
  exact ⟨t, a.same s, b⟩
theorem Ok.kp {B : Nat} {r : Addr} (R : Rg H r) (k : Kp r H H') (h : Ok K H m B x) : Ok K H' m B x := by
  obtain ⟨t, a, b⟩ := h
  exact ⟨t, a.kp R k, b⟩
theorem Ok.le {B m' B' : Nat} (h : Ok K H m B x) (l : m ≤ m') (l2 : B ≤ B') : Ok K H m' B' x := by
  obtain ⟨t, a, b⟩ := h
  exact ⟨t, a.le l, Nat.le_trans b l2⟩
theorem Ok.snoc {B : Nat} {l : List V} {y : V} (h : ∀ z ∈ l, Ok K H m B z) (s : Same H H') (k : Ok K H' m B y) : ∀ z ∈ l ++ [y], Ok K H' m B z := fun z hz => by
  rcases List.mem_append.mp hz with q | q
  · exact (h z q).same s
  · rw [List.mem_singleton.mp q]; exact k
end
theorem go_if3 {c : TT} {b rest : TS} {D : Ends} {σ : L2.St} {H : Hp} (J : L2.St → Hp → Prop) (main : ∀ σ' H', J σ' H' → rest D σ' H') (step : ∀ D' : Ends, (∀ σ' H', J σ' H' → D'.nx σ' H') → tIfS c b tNext D' σ H) : tSeq (tIfS c b tNext) rest D σ H := step _ main
theorem mkFr {K : PySem.W.Frag} {H : Hp} {p : Addr} {a b : Int} (z : SqT K H p [.int a, .int b]) (ha : a.natAbs < 2 ^ 120) (hb : b.natAbs < 2 ^ 120) : FrW K H (.ref p) (a, b) := ⟨⟨p, rfl, z⟩, ha, hb⟩
theorem sz1 (k : Rk) (u : Rw) : (Rw.mk k [u]).size = 1 + u.size := by rw [Rw.size, Rw.sizes, Rw.sizes]; omega
theorem sz2 (k : Rk) (u v : Rw) : (Rw.mk k [u, v]).size = 1 + u.size + v.size := by rw [Rw.size, Rw.sizes, Rw.sizes, Rw.sizes]; omega
theorem sz0 (k : Rk) : (Rw.mk k []).size = 1 := by rw [Rw.size, Rw.sizes]
theorem Ok.none {K : PySem.W.Frag} {H : Hp} {m B : Nat} : ∀ z ∈ ([] : List V), Ok K H m B z := fun z hz => by cases hz
theorem all_snoc {P P' : V → Prop} {l : List V} {y : V} (h : ∀ z ∈ l, P z) (s : ∀ z, P z → P' z) (k : P' y) : ∀ z ∈ l ++ [y], P' z := fun z hz => by
  rcases List.mem_append.mp hz with q | q
  · exact s z (h z q)
  · rw [List.mem_singleton.mp q]; exact k
def FOk (K : PySem.W.Frag) (H : Hp) (v : V) : Prop := ∃ f, FrW K H v f
theorem FOk.same {K : PySem.W.Frag} {H H' : Hp} (s : Same H H') (v : V) (h : FOk K H v) : FOk K H' v := ⟨h.choose, h.choose_spec.same s⟩
theorem FrW.kp {K : PySem.W.Frag} {H H' : Hp} {r : Addr} {v : V} {f : QQ} (R : Rg H r) (k : Kp r H H') (h : FrW K H v f) : FrW K H' v f := h.imp fun _ _ z => RgT R k z
theorem sizes_rep (u : Rw) : ∀ n, Rw.sizes (List.replicate n u) = n * u.size
  | 0 => by rw [List.replicate_zero, Rw.sizes, Nat.zero_mul]
  | n + 1 => by rw [List.replicate_succ, Rw.sizes, sizes_rep u n, Nat.add_mul]; omega
theorem sqN {K : PySem.W.Frag} {H : Hp} {p : Addr} {xs : List V} (_ : H p = none) : SqT K (upd H p (.tup xs)) p xs := SqT.of upd_same
theorem Eqd.frw {K : PySem.W.Frag} {H : Hp} {n : Nat} {v u : V} {f : QQ} (a : FrW K H v f) (b : FrW K H u f) : Eqd K H (n + 1) v u := by
  obtain ⟨p, rfl, hp⟩ := a.fr
  obtain ⟨q, rfl, hq⟩ := b.fr
  exact Eqd.tup hp hq rfl (by show 2 ≤ 100000; decide) (all2_cons (Eqd.atom rfl) (all2_cons (Eqd.atom rfl) all2_nil))
/-- the same term twice in memory -/
theorem RwAt.eqd {K : PySem.W.Frag} {H : Hp} : ∀ {n : Nat} {v u : V} {t : Rw}, RwAt K H n v t → RwAt K H n u t → Eqd K H (2 * n) v u
  | 0, _, _, _, h, _ => h.elim
  | n + 1, v, u, .mk k ts, ⟨l, xs, h1, h2⟩, ⟨_, ys, k1, k2⟩ => by
    have hl : xs.length = ys.length := by rw [h2.1, k2.1]
    have sub : ∀ (i : Nat) x y, xs[i]? = some x → ys[i]? = some y → Eqd K H (2 * n) x y := fun i x y hx hy => by
      obtain ⟨t, ht, hx'⟩ := h2.at hx
      exact RwAt.eqd hx' (k2.2 i y t hy ht)
    have xl : xs.length ≤ 2000 := by rw [h2.1]; exact l
    show Eqd K H (2 * n + 1 + 1) v u
    match k, h1, k1 with
    | .ev ss, ⟨ex, a1, a2, p, e, z⟩, ⟨_, _, _, q, e', z'⟩ =>
      subst e e'
      refine Eqd.tup z z' rfl (by rw [List.length_cons, List.length_map]; omega) (all2_cons (Eqd.atom rfl) fun i x y hx hy => ?_)
      rw [hx] at hy
      cases hy
      obtain ⟨s, _, rfl⟩ := List.mem_map.mp (List.mem_of_getElem? hx)
      exact Eqd.atom rfl
    | .dl none, ⟨p, x, ex, e, z⟩, ⟨q, y, ey, e', z'⟩ =>
      subst e e' ex ey
      exact Eqd.tup z z' rfl (by show 2 ≤ 100000; decide) (all2_cons (Eqd.atom rfl) (all2_cons (sub 0 x y rfl rfl).up all2_nil))
    | .dl (some f), ⟨p, x, fv, ex, e, z, fw⟩, ⟨q, y, gv, ey, e', z', gw⟩ =>
      subst e e' ex ey
      exact Eqd.tup z z' rfl (by show 3 ≤ 100000; decide) (all2_cons (Eqd.atom rfl) (all2_cons (sub 0 x y rfl rfl).up (all2_cons (Eqd.frw fw gw) all2_nil)))
    | .mx ws, ⟨p, as, e, z, l1, l2, hm⟩, ⟨q, bs, e', z', m1, m2, km⟩ =>
      subst e e'
      refine Eqd.tup z z' (by rw [List.length_cons, List.length_cons]; omega) (by rw [List.length_cons]; omega) (all2_cons (Eqd.atom rfl) fun i a b ha hb => ?_)
      have il : i < as.length := (List.getElem?_eq_some_iff.mp ha).1
      have hx : xs[i]? = some (xs[i]'(by omega)) := List.getElem?_eq_getElem _
      have hy : ys[i]? = some (ys[i]'(by omega)) := List.getElem?_eq_getElem _
      have hw : ws[i]? = some (ws[i]'(by omega)) := List.getElem?_eq_getElem _
      obtain ⟨a', wv, rfl, s1, f1⟩ := hm i a _ _ ha hx hw
      obtain ⟨b', uv, rfl, s2, f2⟩ := km i b _ _ hb hy hw
      have sx := sub i _ _ hx hy
      refine Eqd.tup s1 s2 rfl (by show 2 ≤ 100000; decide) (all2_cons ?_ (all2_cons sx all2_nil))
      cases n with
      | zero =>
        obtain ⟨t, ht, hx'⟩ := h2.at hx
        exact hx'.elim
      | succ n => exact Eqd.frw f1 f2
    | .nn kk, ⟨_, _, _, p, e, z⟩, ⟨_, _, _, q, e', z'⟩ =>
      subst e e'
      exact Eqd.tup z z' (by rw [List.length_cons, List.length_cons, hl]) (by rw [List.length_cons]; omega) (all2_cons (Eqd.atom rfl) fun i x y hx hy => (sub i x y hx hy).up)
mutual
def Rw.flat : Rw → List Str
  | .mk (.ev ss) _ => ss
  | .mk _ ts => Rw.flats ts
def Rw.flats : List Rw → List Str
  | [] => []
  | t :: ts => t.flat ++ Rw.flats ts
end
theorem flat_node {k : Rk} {ts : List Rw} (h : ¬ ∃ ss, k = .ev ss) : (Rw.mk k ts).flat = Rw.flats ts := by
  match k, h with
  | .ev ss, h => exact absurd ⟨ss, rfl⟩ h
  | .dl f, _ => rw [Rw.flat]; intro ss z; cases z
  | .mx ws, _ => rw [Rw.flat]; intro ss z; cases z
  | .nn k, _ => rw [Rw.flat]; intro ss z; cases z
theorem flats_takeR {ts : List Rw} {i : Nat} {u : Rw} (h : ts[i]? = some u) : Rw.flats (ts.take (i + 1)) = Rw.flats (ts.take i) ++ u.flat := by
  have app : ∀ a b : List Rw, Rw.flats (a ++ b) = Rw.flats a ++ Rw.flats b := by
    intro a b
    induction a with
    | nil => rfl
    | cons x a ih => rw [List.cons_append, Rw.flats, Rw.flats, ih, List.append_assoc]
  rw [List.take_add_one, h, app]
  show _ ++ Rw.flats [u] = _
  rw [Rw.flats, Rw.flats, List.append_nil]
/-- every event has one name -/
def EvOk : Nat → Rw → Prop
  | 0, _ => False
  | n + 1, .mk k ts => (∀ ss, k = .ev ss → ∃ s, ss = [s]) ∧ ∀ u ∈ ts, EvOk n u
theorem isT.ev : ∀ {n : Nat} {t : Rw}, isT n t = true → EvOk n t
  | 0, _, h => by cases h
  | n + 1, .mk k ts, h => by
    have h' : (formK k ts.length && ts.all (isT n)) = true := h
    rw [Bool.and_eq_true] at h'
    refine ⟨fun ss e => ?_, fun u hu => isT.ev (List.all_eq_true.mp h'.2 u hu)⟩
    subst e
    have hf : evB ss = true := h'.1
    match ss, hf with
    | [s], _ => exact ⟨s, rfl⟩
def spNamesR (K : PySem.W.Frag) : Nat → Sp
  | 0 => fun _ _ _ _ => False
  | n + 1 => fun vs H Q _ => ∃ (v : V) (t : Rw), vs = [v] ∧ RwAt K H (n + 1) v t ∧ EvOk (n + 1) t ∧ t.flat.length ≤ 1000 ∧ ∀ l H', Same H H' → H l = none → H' l = some (.lst ((ded t.flat).map V.str)) → Q (.ref l) H'
theorem EvOk.up : ∀ {n : Nat} {t : Rw}, EvOk n t → EvOk (n + 1) t
  | 0, _, h => h.elim
  | n + 1, .mk k ts, h => ⟨h.1, fun t ht => (h.2 t ht).up⟩
theorem Rw.flats_app : ∀ a b : List Rw, Rw.flats (a ++ b) = Rw.flats a ++ Rw.flats b
  | [], b => rfl
  | x :: a, b => by rw [List.cons_append, Rw.flats, Rw.flats, Rw.flats_app a b, List.append_assoc]
theorem Rw.sizes_rev : ∀ a : List Rw, Rw.sizes a.reverse = Rw.sizes a
  | [] => rfl
  | x :: a => by
    rw [List.reverse_cons, Rw.sizes_app, Rw.sizes_rev a, Rw.sizes, Rw.sizes, Rw.sizes]
    omega
theorem Rw.size_pos (t : Rw) : 1 ≤ t.size := by rw [t.size_eq]; omega
theorem EvOk.len : ∀ {n : Nat} {t : Rw}, EvOk n t → t.flat.length ≤ t.size
  | 0, _, h => h.elim
  | n + 1, .mk k ts, h => by
    by_cases hev : ∃ ss, k = .ev ss
    · obtain ⟨ss, rfl⟩ := hev
      obtain ⟨s, rfl⟩ := h.1 _ rfl
      rw [Rw.flat, Rw.size]
      show 1 ≤ _
      omega
    · rw [flat_node hev, Rw.size]
      have key : ∀ l : List Rw, (∀ u ∈ l, EvOk n u) → (Rw.flats l).length ≤ Rw.sizes l := by
        intro l
        induction l with
        | nil => intro _; exact Nat.zero_le _
        | cons a l ih =>
          intro hl
          rw [Rw.flats, Rw.sizes, List.length_append]
          have h1 := (hl a List.mem_cons_self).len
          have h2 := ih fun u hu => hl u (List.mem_cons_of_mem _ hu)
          omega
      have := key ts h.2
      omega
theorem All3.uncons {R : V → Rw → Prop} {x : V} {t : Rw} {xs : List V} {ts : List Rw} (h : All3 R (x :: xs) (t :: ts)) : R x t ∧ All3 R xs ts :=
  ⟨h.2 0 x t rfl rfl, by have := h.1; simpa using this, fun i y u a b => h.2 (i + 1) y u a b⟩
theorem All3.rev {R : V → Rw → Prop} : ∀ {xs : List V} {ts : List Rw}, All3 R xs ts → All3 R xs.reverse ts.reverse
  | [], [], _ => All3.nil
  | [], _ :: _, a => by have := a.1; cases this
  | _ :: _, [], a => by have := a.1; cases this
  | x :: xs, t :: ts, a => by
    rw [List.reverse_cons, List.reverse_cons]
    exact (All3.rev a.uncons.2).app (All3.one a.uncons.1)
theorem All3.last {R : V → Rw → Prop} {xs : List V} {ts : List Rw} (h : All3 R xs ts) (ne : xs ≠ []) : ∃ y us u, ts = us ++ [u] ∧ xs[xs.length - 1]? = some y ∧ All3 R xs.dropLast us ∧ R y u := by
  have e := List.dropLast_concat_getLast ne
  have nt : ts ≠ [] := fun z => by rw [z] at h; exact ne (List.length_eq_zero_iff.mp h.1)
  have et := List.dropLast_concat_getLast nt
  refine ⟨xs.getLast ne, ts.dropLast, ts.getLast nt, et.symm, ?_, ⟨by rw [List.length_dropLast, List.length_dropLast, h.1], fun i x t a b => ?_⟩, ?_⟩
  · rw [← List.getLast?_eq_getElem?, List.getLast?_eq_some_getLast ne]
  · rw [List.getElem?_dropLast] at a b
    split at a
    · split at b
      · exact h.2 i x t a b
      · cases b
    · cases a
  · refine h.2 (xs.length - 1) _ _ ?_ ?_
    · rw [← List.getLast?_eq_getElem?, List.getLast?_eq_some_getLast ne]
    · rw [h.1, ← List.getLast?_eq_getElem?, List.getLast?_eq_some_getLast nt]
/-! ### rows -/
def AllG {α : Type} (R : V → α → Prop) (xs : List V) (ts : List α) : Prop := xs.length = ts.length ∧ ∀ (i : Nat) x t, xs[i]? = some x → ts[i]? = some t → R x t
theorem AllG.mono {α : Type} {R S : V → α → Prop} {xs : List V} {ts : List α} (h : AllG R xs ts) (k : ∀ x t, R x t → S x t) : AllG S xs ts := ⟨h.1, fun i x t a b => k x t (h.2 i x t a b)⟩
theorem AllG.nil {α : Type} {R : V → α → Prop} : AllG R [] [] := ⟨rfl, fun i x t h => by cases h⟩
theorem AllG.cons {α : Type} {R : V → α → Prop} {x : V} {t : α} {xs : List V} {ts : List α} (k : R x t) (h : AllG R xs ts) : AllG R (x :: xs) (t :: ts) :=
  ⟨by rw [List.length_cons, List.length_cons, h.1], fun i y u a b => by
    cases i with
    | zero => cases a; cases b; exact k
    | succ i => exact h.2 i y u a b⟩
theorem AllG.one {α : Type} {R : V → α → Prop} {x : V} {t : α} (k : R x t) : AllG R [x] [t] := AllG.cons k AllG.nil
theorem AllG.at {α : Type} {R : V → α → Prop} {xs : List V} {ts : List α} (h : AllG R xs ts) {i : Nat} {x : V} (hx : xs[i]? = some x) : ∃ t, ts[i]? = some t ∧ R x t := by
  have l : i < ts.length := by rw [← h.1]; exact (List.getElem?_eq_some_iff.mp hx).1
  exact ⟨ts[i], List.getElem?_eq_getElem l, h.2 i x _ hx (List.getElem?_eq_getElem l)⟩
theorem AllG.app {α : Type} {R : V → α → Prop} {xs ys : List V} {ts us : List α} (a : AllG R xs ts) (b : AllG R ys us) : AllG R (xs ++ ys) (ts ++ us) := by
  refine ⟨by rw [List.length_append, List.length_append, a.1, b.1], fun i x t h1 h2 => ?_⟩
  by_cases hi : i < xs.length
  · rw [List.getElem?_append_left hi] at h1
    rw [List.getElem?_append_left (by rw [← a.1]; exact hi)] at h2
    exact a.2 i x t h1 h2
  · rw [List.getElem?_append_right (by omega)] at h1
    rw [List.getElem?_append_right (by rw [← a.1]; omega), ← a.1] at h2
    exact b.2 _ x t h1 h2
theorem AllG.take {α : Type} {R : V → α → Prop} {xs : List V} {ts : List α} (h : AllG R xs ts) (n : Nat) : AllG R (xs.take n) (ts.take n) := by
  refine ⟨by rw [List.length_take, List.length_take, h.1], fun i x t h1 h2 => ?_⟩
  rw [List.getElem?_take] at h1 h2
  split at h1
  · rename_i hi
    rw [if_pos hi] at h2
    exact h.2 i x t h1 h2
  · cases h1
theorem AllG.drop {α : Type} {R : V → α → Prop} {xs : List V} {ts : List α} (h : AllG R xs ts) (n : Nat) : AllG R (xs.drop n) (ts.drop n) := by
  refine ⟨by rw [List.length_drop, List.length_drop, h.1], fun i x t h1 h2 => ?_⟩
  rw [List.getElem?_drop] at h1 h2
  exact h.2 _ x t h1 h2
abbrev Row := Str × Rw
def RowAt (K : PySem.W.Frag) (H : Hp) (n : Nat) (v : V) (r : Row) : Prop := ∃ p x, v = .ref p ∧ SqT K H p [.str r.1, x] ∧ RwAt K H n x r.2
theorem RowAt.same {K : PySem.W.Frag} {H H' : Hp} (s : Same H H') {n : Nat} {v : V} {r : Row} (h : RowAt K H n v r) : RowAt K H' n v r := by
  obtain ⟨p, x, e, hp, hx⟩ := h
  exact ⟨p, x, e, Same.T s hp, hx.same s⟩
theorem RowAt.put {K : PySem.W.Frag} {H : Hp} {D : Addr} {l l' : List V} (hD : H D = some (.lst l)) {n : Nat} {v : V} {r : Row} (h : RowAt K H n v r) : RowAt K (upd H D (.lst l')) n v r := by
  obtain ⟨p, x, e, hp, hx⟩ := h
  exact ⟨p, x, e, sqPut hp hD, hx.put hD⟩
theorem RowAt.kp {K : PySem.W.Frag} {H H' : Hp} {r : Addr} (R : Rg H r) (k : Kp r H H') {n : Nat} {v : V} {w : Row} (h : RowAt K H n v w) : RowAt K H' n v w := by
  obtain ⟨p, x, e, hp, hx⟩ := h
  exact ⟨p, x, e, RgT R k hp, hx.kp R k⟩
def okNm (u : Str) : Prop := (∀ c ∈ u.cps.toList, c < 16 ^ 8) ∧ u.length ≤ 1000
theorem nm_ok {u : Str} (h : nameB u = true) : okNm u := by
  unfold nameB at h
  simp only [Bool.and_eq_true, decide_eq_true_eq] at h
  refine ⟨fun c hc => ?_, by omega⟩
  have z := List.all_eq_true.mp h.2.1 c hc
  unfold lowB at z
  simp only [Bool.and_eq_true, decide_eq_true_eq] at z
  have : (16 : Nat) ^ 8 = 4294967296 := by decide
  omega
theorem dropAt {α : Type} {l : List α} {i : Nat} {x : α} (h : l[i]? = some x) : l.drop i = x :: l.drop (i + 1) := by
  have hi := (List.getElem?_eq_some_iff.mp h).1
  rw [List.drop_eq_getElem_cons hi]
  rw [List.getElem?_eq_getElem hi] at h
  rw [Option.some.inj h]
/-- names of the term that are not among ns -/
def unk (ns : List Str) (t : Rw) : List Str := (ded t.flat).filter fun s => !decide (s ∈ ns)
/-- the first wrong name: true for an invalid one, false for one that was there -/
def nmErr : List Str → List Str → Option (Bool × Str)
  | _, [] => none
  | seen, s :: r => if nameB s = false then some (true, s) else if s ∈ seen then some (false, s) else nmErr (seen ++ [s]) r
theorem EvOk.le {n m : Nat} (l : n ≤ m) {t : Rw} (h : EvOk n t) : EvOk m t := by
  induction l with
  | refl => exact h
  | step _ ih => exact ih.up
theorem isT.nm : ∀ {n : Nat} {t : Rw}, isT n t = true → ∀ s ∈ t.flat, nameB s = true
  | 0, _, h => by cases h
  | n + 1, .mk k ts, h => by
    have h' : (formK k ts.length && ts.all (isT n)) = true := h
    rw [Bool.and_eq_true] at h'
    by_cases hev : ∃ ss, k = .ev ss
    · obtain ⟨ss, rfl⟩ := hev
      have hf : evB ss = true := h'.1
      match ss, hf with
      | [s], hf =>
        intro z hz
        rw [Rw.flat] at hz
        rw [List.mem_singleton.mp hz]
        exact hf
    · rw [flat_node hev]
      have key : ∀ l : List Rw, (∀ u ∈ l, isT n u = true) → ∀ s ∈ Rw.flats l, nameB s = true := by
        intro l
        induction l with
        | nil => intro _ s hs; cases hs
        | cons a l ih =>
          intro hl s hs
          rw [Rw.flats] at hs
          rcases List.mem_append.mp hs with z | z
          · exact isT.nm (hl a List.mem_cons_self) s z
          · exact ih (fun u hu => hl u (List.mem_cons_of_mem _ hu)) s z
      exact key ts (List.all_eq_true.mp h'.2)
theorem unk_in {ns : List Str} {t : Rw} {u : Str} {us : List Str} (h : unk ns t = u :: us) : u ∈ t.flat := by
  have : u ∈ unk ns t := by rw [h]; exact List.mem_cons_self
  exact ded_mem.mp (List.mem_filter.mp this).1
def unkE : List Str → Option (Bool × Str)
  | u :: _ => some (false, u)
  | [] => none
/-- the first wrong term: an invalid one's row, or an unknown name -/
def tmErr (rs : List Row) : Option (Bool × Str) :=
  match rs.filter fun r => !(isT 10 r.2 && decide (r.2.size ≤ 40)) with
  | r :: _ => some (true, r.1)
  | [] => unkE (rs.flatMap fun r => unk (rs.map Prod.fst) r.2)
/-- what is wrong with a list of rows -/
inductive RE where
  | cnt (n : Nat) | nam (s : Str) | dup (s : Str) | trm (s : Str) | unk (s : Str)
def RE.tag : RE → Str
  | .cnt _ => "InvalidCount"
  | .nam _ => "InvalidName"
  | .dup _ => "DuplicateName"
  | .trm _ => "InvalidTerm"
  | .unk _ => "UnknownEvent"
def RE.fld : RE → Str
  | .cnt _ => "quantity"
  | _ => "name"
def RE.val : RE → V
  | .cnt n => .int (n : Nat)
  | .nam s => .str s
  | .dup s => .str s
  | .trm s => .str s
  | .unk s => .str s
def bodyErr (rs : List Row) : Option RE :=
  match nmErr [] (rs.map Prod.fst) with
  | some (true, s) => some (.nam s)
  | some (false, s) => some (.dup s)
  | none => match tmErr rs with
    | some (true, s) => some (.trm s)
    | some (false, s) => some (.unk s)
    | none => none
def sysErr (rs : List Row) : Option RE := if 1 ≤ rs.length ∧ rs.length ≤ 6 then bodyErr rs else some (.cnt rs.length)
theorem RowAt.imp {K : PySem.W.Frag} {H H' : Hp} (sT : ∀ p xs, SqT K H p xs → SqT K H' p xs) {n : Nat} {v : V} {r : Row} (h : RowAt K H n v r) : RowAt K H' n v r := by
  obtain ⟨p, x, e, hp, hx⟩ := h
  exact ⟨p, x, e, sT _ _ hp, hx.imp sT⟩
theorem sqIns {K : PySem.W.Frag} {H : Hp} {D p C dx : Addr} {fs : List (Str × V)} {o' : HO} {xs : List V} (h : SqT K H p xs) (hD : H D = some (.ins C dx fs)) : SqT K (upd H D o') p xs := by
  rcases h with (z | ⟨o, z⟩) | z
  · exact .inl (.inl (by rw [upd_ne (ne_of z hD (fun y => by cases y))]; exact z))
  · exact .inl (.inr ⟨o, by rw [upd_ne (ne_of z hD (fun y => by cases y))]; exact z⟩)
  · exact .inr z
theorem TmAt.rawV {K : PySem.W.Frag} {H : Hp} : ∀ {n : Nat} {v : V} {t : Tm}, TmAt K H n v t → VOk n t → (∀ s ∈ t.flat, s.length ≤ 4000) → RwAt K H n v t.raw
  | 0, _, _, h, _, _ => h.elim
  | n + 1, v, .ev s, h, _, hs => by
    obtain ⟨p, e, z⟩ := h
    rw [Tm.raw]
    refine ⟨Nat.zero_le _, [], ⟨rfl, by show 1 ≤ 2000; decide, fun x hx => ?_, p, e, z⟩, All3.nil⟩
    rw [List.mem_singleton.mp hx]; exact hs s (by rw [Tm.flat]; exact List.mem_singleton.mpr rfl)
  | n + 1, v, .nd k ts, h, g, hs => by
    obtain ⟨xs, h1, h2⟩ := h
    have h3 := g.1.1.2
    rw [Tm.raw, raws_map]
    have fw : ∀ {v f}, FrB K H v f.1 f.2 40 → FrW K H v f := fun z => ⟨z.fr, Nat.lt_of_lt_of_le z.nB (Nat.pow_le_pow_right (by decide) (by decide)), Nat.lt_of_lt_of_le z.dB (Nat.pow_le_pow_right (by decide) (by decide))⟩
    refine ⟨by rw [List.length_map]; omega, xs, ?_, ?_⟩
    · cases k with
      | delay f => obtain ⟨p, x, fv, e1, e2, z, w⟩ := h1; exact ⟨p, x, fv, e1, e2, z, fw w⟩
      | max => obtain ⟨p, e, z⟩ := h1; exact ⟨by decide +kernel, by decide +kernel, by decide +kernel, p, e, z⟩
      | min => obtain ⟨p, e, z⟩ := h1; exact ⟨by decide +kernel, by decide +kernel, by decide +kernel, p, e, z⟩
      | median => obtain ⟨p, e, z⟩ := h1; exact ⟨by decide +kernel, by decide +kernel, by decide +kernel, p, e, z⟩
      | mix ws =>
        obtain ⟨p, ys, e, z, l1, l2, hm⟩ := h1
        refine ⟨p, ys, e, z, l1, l2, fun i y x f a b c => ?_⟩
        obtain ⟨q, wv, e', h3, h4⟩ := hm i y x f a b c
        exact ⟨q, wv, e', h3, fw h4⟩
    · refine ⟨by rw [List.length_map]; exact h2.1, fun i x t a b => ?_⟩
      rw [List.getElem?_map] at b
      cases e : ts[i]? with
      | none => rw [e] at b; cases b
      | some u =>
        rw [e] at b
        cases b
        refine TmAt.rawV (h2.2 i x u a e) (g.2 u (List.mem_of_getElem? e)) fun s hs' => hs s ?_
        rw [Tm.flat]
        have fm : ∀ us : List Tm, u ∈ us → s ∈ Tm.flats us := by
          intro us
          induction us with
          | nil => intro z; cases z
          | cons y us ih =>
            intro z
            rw [Tm.flats]
            rcases List.mem_cons.mp z with q | q
            · rw [← q]; exact List.mem_append_left _ hs'
            · exact List.mem_append_right _ (ih q)
        exact fm ts (List.mem_of_getElem? e)
theorem notInK {X : Cx} {K : PySem.W.Frag} (hK : X.K = K) : OpR X (compareOp .NotIn) (rIn K true) := hK ▸ op_notIn_seq
theorem tmErr_bad {rs : List Row} {r : Row} {l : List Row} (h : (rs.filter fun r => !(isT 10 r.2 && decide (r.2.size ≤ 40))) = r :: l) : tmErr rs = some (true, r.1) := by unfold tmErr; rw [h]
theorem tmErr_unk {rs : List Row} (h : (rs.filter fun r => !(isT 10 r.2 && decide (r.2.size ≤ 40))) = []) : tmErr rs = unkE (rs.flatMap fun r => unk (rs.map Prod.fst) r.2) := by unfold tmErr; rw [h]
theorem cutTo (xs : List V) (q : Nat) (h : q ≤ xs.length) : cutV xs none (some (q : Int)) = xs.take q := by
  unfold cutV
  rw [HT.sIx_none, show HT.sIx xs.length xs.length (some (q : Int)) = min q xs.length from HT.sIx_nat xs.length xs.length q, List.drop_zero, show min q xs.length - 0 = q by omega]
theorem cutFrom (xs : List V) (q : Nat) (h : q ≤ xs.length) : cutV xs (some (q : Int)) none = xs.drop q := by
  unfold cutV
  rw [HT.sIx_none, show HT.sIx xs.length 0 (some (q : Int)) = min q xs.length from HT.sIx_nat xs.length 0 q, show min q xs.length = q by omega, List.take_of_length_le (by rw [List.length_drop]; omega)]
/-! ### terms as the law draws them -/
def KdR (ss : List Str) : Rk → Nat → Prop
  | .ev l, m => m = 0 ∧ ∃ s ∈ ss, l = [s]
  | .dl none, _ => False
  | .dl (some f), m => m = 1 ∧ DlS f
  | .mx ws, m => (1 ≤ m ∧ m ≤ 6) ∧ ws.length = m ∧ ShW ws
  | .nn k, m => ((k = "max" ∨ k = "min") ∧ 1 ≤ m ∧ m ≤ 6) ∨ (k = "median" ∧ m = 3)
def WR (ss : List Str) : Nat → Rw → Prop
  | 0, _ => False
  | n + 1, .mk k ts => KdR ss k ts.length ∧ ∀ u ∈ ts, WR ss n u
theorem WR.up {ss : List Str} : ∀ {n : Nat} {t : Rw}, WR ss n t → WR ss (n + 1) t
  | 0, _, h => h.elim
  | n + 1, .mk k ts, h => ⟨h.1, fun u hu => (h.2 u hu).up⟩
theorem WR.le {ss : List Str} {n m : Nat} (l : n ≤ m) {t : Rw} (h : WR ss n t) : WR ss m t := by
  induction l with
  | refl => exact h
  | step _ ih => exact ih.up
theorem WR.sub {ss : List Str} {n : Nat} {t u : Rw} (h : WR ss n t) (hu : u ∈ t.subs) : WR ss n u := by
  match n, t, h with
  | n + 1, .mk k ts, h => exact (h.2 u hu).up
theorem WT.wr {ss : List Str} : ∀ {n : Nat} {t : Tm}, WT ss n t → WR ss n t.raw
  | 0, _, h => h.elim
  | n + 1, .ev s, h => by rw [Tm.raw]; exact ⟨⟨rfl, s, h, rfl⟩, fun u hu => by cases hu⟩
  | n + 1, .nd k ts, h => by
    rw [Tm.raw, raws_map]
    refine ⟨?_, fun u hu => ?_⟩
    · rw [List.length_map]
      cases k with
      | delay f => exact h.1
      | max => exact .inl ⟨.inl rfl, h.1⟩
      | min => exact .inl ⟨.inr rfl, h.1⟩
      | median => exact .inr ⟨rfl, h.1⟩
      | mix ws => exact h.1
    · obtain ⟨t, ht, rfl⟩ := List.mem_map.mp hu
      exact (h.2 t ht).wr
theorem low_fracB {f : QQ} (h : Low f) (h1 : f.1.natAbs ≤ 999999999999) (h2 : f.2 ≤ 999999999999) : fracB f = true := by
  unfold fracB
  have h0 := h.1
  rw [show red f.1 f.2 = f by rw [red_R (by omega)]; exact ofR_toR h]
  simp only [Bool.and_eq_true, decide_eq_true_eq]
  exact ⟨⟨h1, by omega, h2⟩, trivial⟩
theorem DlS.frac {f : QQ} (h : DlS f) : fracB f = true := low_fracB ⟨h.2.1, h.2.2.2⟩ (by have := h.1; omega) (by have := h.2.2.1; omega)
theorem fold_radd : ∀ (qs : List Rat) (x : Rat), (qs.map ofR).foldl radd (ofR x) = ofR (qs.foldl (· + ·) x)
  | [], _ => rfl
  | q :: qs, x => by rw [List.map_cons, List.foldl_cons, List.foldl_cons, radd_R, fold_radd qs (x + q)]
theorem fold_sumR : ∀ (qs : List Rat) (x : Rat), qs.foldl (· + ·) x = x + qs.sum
  | [], x => by rw [List.foldl_nil, List.sum_nil]; grind
  | q :: qs, x => by rw [List.foldl_cons, fold_sumR qs, List.sum_cons]; grind
theorem isum_le : ∀ {is : List Int}, (∀ i ∈ is, 1 ≤ i ∧ i ≤ 4) → is.sum ≤ 4 * (is.length : Int)
  | [], _ => by simp
  | i :: is, h => by
    have h1 := h i List.mem_cons_self
    have h2 := isum_le (is := is) fun j hj => h j (List.mem_cons_of_mem _ hj)
    rw [List.sum_cons, List.length_cons]
    omega
theorem ShW.low {ws : List QQ} (h : ShW ws) (n0 : ws ≠ []) : ∀ w ∈ ws, Low w ∧ 0 < w.1 ∧ w.1.natAbs < 32 ∧ w.2 < 32 := by
  obtain ⟨is, hi, hl, rfl⟩ := h
  have ne : is ≠ [] := fun z => n0 (by rw [z]; rfl)
  have S0 := ints_pos hi ne
  have S1 := isum_le hi
  intro w hw
  obtain ⟨i, hm, rfl⟩ := List.mem_map.mp hw
  have i1 := hi i hm
  have lw : Low (red i is.sum) := low_red (by omega)
  have bt := Bt.red (n := i) (d := is.sum) (B := 5) (by omega) (by show i.natAbs < 32; omega) (by show is.sum.natAbs < 32; omega)
  unfold Bt at bt
  rw [← red_R (by omega)] at bt
  have e := red_eq (n := i) (d := is.sum) (by omega)
  have b1 : (red i is.sum).1.natAbs < 32 := by
    have := bt.1
    exact this
  have b2 : (red i is.sum).2.natAbs < 32 := by
    have := bt.2
    exact this
  refine ⟨lw, ?_, b1, by have := lw.1; omega⟩
  have p1 : 0 < i * (red i is.sum).2 := Int.mul_pos (by omega) lw.1
  rw [← e] at p1
  exact Int.pos_of_mul_pos_left p1 (by omega)
theorem ShW.form {ws : List QQ} (h : ShW ws) (n0 : ws ≠ []) : ((ws.all fun w => fracB w && decide (0 < w.1)) && decide (ws.foldl radd (0, 1) = (1, 1))) = true := by
  have hl := h.low n0
  rw [Bool.and_eq_true]
  refine ⟨List.all_eq_true.mpr fun w hw => ?_, decide_eq_true ?_⟩
  · obtain ⟨a, b, c, d⟩ := hl w hw
    rw [Bool.and_eq_true]
    exact ⟨low_fracB a (by omega) (by omega), decide_eq_true b⟩
  · have e : ws = (ws.map toR).map ofR := by
      rw [List.map_map]
      have : ws.map (ofR ∘ toR) = ws.map id := List.map_congr_left fun w hw => ofR_toR (hl w hw).1
      rw [this, List.map_id]
    rw [e, show ((0, 1) : QQ) = ofR 0 from rfl, fold_radd, fold_sumR, (h.nice n0).2]
    decide +kernel
theorem WR.valid {ss : List Str} (nm : ∀ s ∈ ss, nameB s = true) : ∀ {n : Nat} {t : Rw}, WR ss n t → isT n t = true
  | 0, _, h => h.elim
  | n + 1, .mk k ts, h => by
    show (formK k ts.length && ts.all (isT n)) = true
    rw [Bool.and_eq_true]
    refine ⟨?_, List.all_eq_true.mpr fun u hu => WR.valid nm (h.2 u hu)⟩
    have hk := h.1
    match k, hk with
    | .ev l, ⟨_, s, hs, e⟩ => subst e; exact nm s hs
    | .dl (some f), ⟨_, hd⟩ => exact hd.frac
    | .mx ws, ⟨⟨m1, m6⟩, wl, sw⟩ =>
      show ((decide (1 ≤ ts.length) && decide (ts.length ≤ 6)) && _) = true
      rw [Bool.and_eq_true, Bool.and_eq_true]
      exact ⟨⟨decide_eq_true m1, decide_eq_true m6⟩, sw.form fun z => by rw [z] at wl; rw [← wl] at m1; exact absurd m1 (by decide)⟩
    | .nn k, .inl ⟨e, m1, m6⟩ =>
      have : (decide (1 ≤ ts.length) && decide (ts.length ≤ 6)) = true := by rw [Bool.and_eq_true]; exact ⟨decide_eq_true m1, decide_eq_true m6⟩
      show (if k = "median" then decide (ts.length = 3) else (decide (k = "max") || decide (k = "min")) && (decide (1 ≤ ts.length) && decide (ts.length ≤ 6))) = true
      rw [this]
      rcases e with rfl | rfl
      · rw [if_neg (by decide +kernel)]; decide +kernel
      · rw [if_neg (by decide +kernel)]; decide +kernel
    | .nn k, .inr ⟨e, m3⟩ =>
      subst e
      show (if ("median" : Str) = "median" then decide (ts.length = 3) else (decide (("median" : Str) = "max") || decide (("median" : Str) = "min")) && (decide (1 ≤ ts.length) && decide (ts.length ≤ 6))) = true
      rw [if_pos rfl]; exact decide_eq_true m3
theorem WR.flat {ss : List Str} : ∀ {n : Nat} {t : Rw}, WR ss n t → ∀ s ∈ t.flat, s ∈ ss
  | 0, _, h => h.elim
  | n + 1, .mk k ts, h => by
    by_cases hev : ∃ l, k = .ev l
    · obtain ⟨l, rfl⟩ := hev
      obtain ⟨_, s, hs, rfl⟩ := h.1
      intro x hx
      rw [Rw.flat] at hx
      rw [List.mem_singleton.mp hx]; exact hs
    · rw [flat_node hev]
      have key : ∀ l : List Rw, (∀ u ∈ l, WR ss n u) → ∀ s ∈ Rw.flats l, s ∈ ss := by
        intro l
        induction l with
        | nil => intro _ s hs; cases hs
        | cons a l ih =>
          intro hl s hs
          rw [Rw.flats] at hs
          rcases List.mem_append.mp hs with z | z
          · exact (hl a List.mem_cons_self).flat s z
          · exact ih (fun u hu => hl u (List.mem_cons_of_mem _ hu)) s z
      exact key ts h.2
/-- rows as the law draws them -/
structure Drw (rs : List Row) : Prop where
  nd : (rs.map Prod.fst).Nodup
  nm : ∀ z ∈ rs, nameB z.1 = true
  wr : ∀ z ∈ rs, WR (rs.map Prod.fst) 4 z.2
  sz : ∀ z ∈ rs, z.2.size ≤ 40
theorem nmErr_none : ∀ (l seen : List Str), (∀ s ∈ l, nameB s = true) → (seen ++ l).Nodup → nmErr seen l = none
  | [], _, _, _ => rfl
  | s :: l, seen, h, nd => by
    have n1 : s ∉ seen := fun z => (List.nodup_append.mp nd).2.2 s z s List.mem_cons_self rfl
    rw [nmErr, if_neg (by rw [h s List.mem_cons_self]; decide), if_neg n1]
    exact nmErr_none l (seen ++ [s]) (fun x hx => h x (List.mem_cons_of_mem _ hx)) (by rw [List.append_assoc]; exact nd)
/-- a valid list of rows -/
structure Vld (rs : List Row) : Prop where
  nd : (rs.map Prod.fst).Nodup
  nm : ∀ z ∈ rs, nameB z.1 = true
  it : ∀ z ∈ rs, isT 10 z.2 = true
  sz : ∀ z ∈ rs, z.2.size ≤ 40
  fl : ∀ z ∈ rs, ∀ s ∈ z.2.flat, s ∈ rs.map Prod.fst
theorem isT_up1 : ∀ {n : Nat} {t : Rw}, isT n t = true → isT (n + 1) t = true
  | 0, _, h => by cases h
  | n + 1, .mk k ts, h => by
    have h' : (formK k ts.length && ts.all (isT n)) = true := h
    rw [Bool.and_eq_true] at h'
    show (formK k ts.length && ts.all (isT (n + 1))) = true
    rw [Bool.and_eq_true]
    exact ⟨h'.1, List.all_eq_true.mpr fun u hu => isT_up1 (List.all_eq_true.mp h'.2 u hu)⟩
theorem isT_le {n m : Nat} (l : n ≤ m) {t : Rw} (h : isT n t = true) : isT m t = true := by
  induction l with
  | refl => exact h
  | step _ ih => exact isT_up1 ih
theorem Drw.vld {rs : List Row} (h : Drw rs) : Vld rs := by
  have nm : ∀ s ∈ rs.map Prod.fst, nameB s = true := fun s hs => by
    obtain ⟨z, hz, rfl⟩ := List.mem_map.mp hs
    exact h.nm z hz
  exact ⟨h.nd, h.nm, fun z hz => isT_le (by decide) ((h.wr z hz).valid nm), h.sz, fun z hz => (h.wr z hz).flat⟩
theorem Vld.err {rs : List Row} (h : Vld rs) (l1 : 1 ≤ rs.length) (l6 : rs.length ≤ 6) : sysErr rs = none := by
  have e1 : nmErr [] (rs.map Prod.fst) = none := nmErr_none _ [] (fun s hs => by
    obtain ⟨z, hz, rfl⟩ := List.mem_map.mp hs
    exact h.nm z hz) (by simpa using h.nd)
  have e2 : (rs.filter fun r => !(isT 10 r.2 && decide (r.2.size ≤ 40))) = [] := by
    rw [List.filter_eq_nil_iff]
    intro z hz
    rw [h.it z hz, decide_eq_true (h.sz z hz)]
    decide
  have e3 : (rs.flatMap fun r => unk (rs.map Prod.fst) r.2) = [] := by
    rw [List.flatMap_eq_nil_iff]
    intro z hz
    unfold unk
    rw [List.filter_eq_nil_iff]
    intro s hs
    rw [decide_eq_true (h.fl z hz s (ded_mem.mp hs))]
    decide
  unfold sysErr
  rw [if_pos ⟨l1, l6⟩]
  unfold bodyErr
  rw [e1, tmErr_unk e2, e3]
  rfl
/-- iterators over a list or a tuple that stands -/
structure SeqIt (J : It) (H : Hp) (xs : List V) : Prop where
  go : ∀ i H', Same H H' → i < xs.length → J.go i H'
  stop : ∀ i H', Same H H' → xs.length ≤ i → J.stop i H'
  yld : ∀ i H' x H'', Same H H' → J.yld i H' x H'' → H'' = H' ∧ xs[i]? = some x
theorem seqIt_l {K : PySem.W.Frag} {H : Hp} {a : Addr} {xs : List V} (h : SqL K H a xs) : SeqIt (Itl K a) H xs :=
  ⟨fun i H' s hi => ⟨xs, xs[i], s.seq h, List.getElem?_eq_getElem hi⟩, fun i H' s hi => ⟨xs, s.seq h, hi⟩, fun i H' x H'' s hy => ⟨hy.1, hy.2 xs (s.seq h)⟩⟩
theorem seqIt_t {K : PySem.W.Frag} {H : Hp} {a : Addr} {xs : List V} (h : SqT K H a xs) : SeqIt (Itt K a) H xs :=
  ⟨fun i H' s hi => ⟨xs, xs[i], Same.T s h, List.getElem?_eq_getElem hi⟩, fun i H' s hi => ⟨xs, Same.T s h, hi⟩, fun i H' x H'' s hy => ⟨hy.1, hy.2 xs (Same.T s h)⟩⟩
theorem seq_or {K : PySem.W.Frag} {te : TE} {σ : L2.St} {H : Hp} {a : Addr} {xs : List V} {R : It → Hp → Prop} (hte : ∀ Q : VK, Q (.ref a) H → te σ H Q) (h : SqT K H a xs ∨ SqL K H a xs) (k : ∀ J, SeqIt J H xs → R J H) : iList K te σ H R ∨ iTup K te σ H R := by
  rcases h with h | h
  · exact .inr (hte _ ⟨a, rfl, ⟨_, h⟩, k _ (seqIt_t h)⟩)
  · exact .inl (hte _ ⟨a, rfl, ⟨_, h⟩, k _ (seqIt_l h)⟩)
theorem lc_sq {J : It} {H0 : Hp} {xs : List V} {g : TG} {tt : TT} {te : TE} {vs : List Nat} {σ : L2.St} {D : Addr} {Qd : Hp → Prop} (hJ : SeqIt J H0 xs) (Pv : Nat → Hp → Prop) (h0 : Pv 0 (upd H0 D (.lst []))) (hl : ∀ i H, i ≤ xs.length → Pv i H → Same H0 H)
    (hs : ∀ i x H, xs[i]? = some x → Pv i H → g x (wipe σ vs) H fun σ2 H2 => wipe σ2 vs = wipe σ vs ∧ tt σ2 H2 fun b H3 =>
      if b = true then te σ2 H3 fun y H4 => ∃ acc, H4 D = some (.lst acc) ∧ acc.length < sizeLine ∧ Pv (i + 1) (upd H4 D (.lst (acc ++ [y]))) else Pv (i + 1) H3) (hd : ∀ H, Pv xs.length H → Qd H) :
    ∃ W : Nat → Nat → Hp → Prop, (∃ m, W 0 m (upd H0 D (.lst []))) ∧ ∀ i m H, W i m H →
      (J.stop i H ∧ Qd H) ∨ (J.go i H ∧ ∃ Nx : Hp → Prop, (∀ H', Nx H' → ∃ m', m' < m ∧ W (i + 1) m' H') ∧ ∀ x H', J.yld i H x H' → g x (wipe σ vs) H' fun σ2 H2 => wipe σ2 vs = wipe σ vs ∧ tt σ2 H2 fun b H3 =>
        if b = true then te σ2 H3 fun y H4 => ∃ acc, H4 D = some (.lst acc) ∧ acc.length < sizeLine ∧ Nx (upd H4 D (.lst (acc ++ [y]))) else Nx H3) := by
  refine ⟨fun i m H => m = xs.length - i ∧ i ≤ xs.length ∧ Pv i H, ⟨xs.length, by simp, Nat.zero_le _, h0⟩, ?_⟩
  rintro i m H ⟨rfl, hi, p⟩
  have s := hl i H hi p
  by_cases hlt : i < xs.length
  · refine .inr ⟨hJ.go i H s hlt, Pv (i + 1), fun H' p' => ⟨xs.length - (i + 1), by omega, rfl, hlt, p'⟩, fun x H' y => ?_⟩
    obtain ⟨e, y2⟩ := hJ.yld i H x H' s y
    subst e
    exact hs i x _ y2 p
  · have e : i = xs.length := by omega
    subst e
    exact .inl ⟨hJ.stop _ H s (Nat.le_refl _), hd H p⟩
/-- integers that are rationals times one factor -/
def Sc (k : Rat) (xs : List Int) (vs : List Rat) : Prop := xs.length = vs.length ∧ ∀ (i : Nat) x v, xs[i]? = some x → vs[i]? = some v → (x : Rat) = v * k
theorem Sc.to {k : Rat} {xs : List Int} {vs : List Rat} (h : Sc k xs vs) {i : Nat} {x : Int} (hx : xs[i]? = some x) : ∃ v, vs[i]? = some v ∧ (x : Rat) = v * k := by
  have l : i < vs.length := by rw [← h.1]; exact (List.getElem?_eq_some_iff.mp hx).1
  exact ⟨vs[i], List.getElem?_eq_getElem l, h.2 i x _ hx (List.getElem?_eq_getElem l)⟩
theorem Sc.from {k : Rat} {xs : List Int} {vs : List Rat} (h : Sc k xs vs) {i : Nat} {v : Rat} (hv : vs[i]? = some v) : ∃ x, xs[i]? = some x ∧ (x : Rat) = v * k := by
  have l : i < xs.length := by rw [h.1]; exact (List.getElem?_eq_some_iff.mp hv).1
  exact ⟨xs[i], List.getElem?_eq_getElem l, h.2 i _ v (List.getElem?_eq_getElem l) hv⟩
theorem Sc.nil {k : Rat} : Sc k [] [] := ⟨rfl, fun i x v h => by cases h⟩
theorem Sc.snoc {k : Rat} {xs : List Int} {vs : List Rat} {x : Int} {v : Rat} (h : Sc k xs vs) (e : (x : Rat) = v * k) : Sc k (xs ++ [x]) (vs ++ [v]) := by
  refine ⟨by rw [List.length_append, List.length_append, h.1]; rfl, fun i y u a b => ?_⟩
  by_cases hi : i < xs.length
  · rw [List.getElem?_append_left hi] at a
    rw [List.getElem?_append_left (by rw [← h.1]; exact hi)] at b
    exact h.2 i y u a b
  · have ei : i = xs.length := by
      have := (List.getElem?_eq_some_iff.mp a).1
      rw [List.length_append] at this
      have : i < xs.length + 1 := this
      omega
    subst ei
    rw [List.getElem?_append_right (Nat.le_refl _), Nat.sub_self] at a
    rw [h.1, List.getElem?_append_right (Nat.le_refl _), Nat.sub_self] at b
    cases a
    cases b
    exact e
theorem iop_mulW {X : Cx} : OpR X (inplaceOp .Mult) (rI CMulW fun i j => .int (i * j)) := opI fun _ _ _ _ _ _ _ hc q => imul_int q hc.ok
theorem lcm_least {a b m g : Int} (hg : g = (Int.gcd a b : Int)) (h : m * g = a * b) (a0 : 0 < a) (b0 : 0 < b) {c : Int} (h1 : a ∣ c) (h2 : b ∣ c) : m ∣ c := by
  have e := Int.gcd_mul_lcm a b
  have e2 : (Int.gcd a b : Int) * (Int.lcm a b : Int) = a * b := by
    have z := congrArg (Nat.cast (R := Int)) e
    rw [Int.natCast_mul, Int.natCast_mul, Int.natAbs_of_nonneg (by omega), Int.natAbs_of_nonneg (by omega)] at z
    exact z
  have g0 : (Int.gcd a b : Int) ≠ 0 := by
    intro z
    rw [z, Int.zero_mul] at e2
    have := Int.mul_pos a0 b0
    omega
  have e3 : m = (Int.lcm a b : Int) := by
    apply Int.eq_of_mul_eq_mul_left g0
    rw [e2, ← h, hg, Int.mul_comm]
  rw [e3]
  exact Int.coe_lcm_dvd h1 h2
theorem for_sq {J : It} {H0 : Hp} {xs : List V} {g : TG} {tb : TS} {D : Ends} {σ : L2.St} (hJ : SeqIt J H0 xs) (Pv : Nat → L2.St → Hp → Prop) (h0 : Pv 0 σ H0) (hl : ∀ i σ H, i ≤ xs.length → Pv i σ H → Same H0 H)
    (hs : ∀ i x σ H, xs[i]? = some x → Pv i σ H → g x σ H fun σ2 H2 => tb { D with nx := Pv (i + 1), ct := Pv (i + 1), bk := D.nx } σ2 H2) (hd : ∀ σ H, Pv xs.length σ H → D.nx σ H) :
    ∃ W : Nat → Nat → L2.St → Hp → Prop, (∃ m, W 0 m σ H0) ∧ ∀ i m σ H, W i m σ H →
      (J.stop i H ∧ D.nx σ H) ∨ (J.go i H ∧ ∃ N : L2.St → Hp → Prop, (∀ σ' H', N σ' H' → ∃ m', m' < m ∧ W (i + 1) m' σ' H') ∧ ∀ x H', J.yld i H x H' → g x σ H' fun σ2 H2 => tb { D with nx := N, ct := N, bk := D.nx } σ2 H2) := by
  refine ⟨fun i m σ H => m = xs.length - i ∧ i ≤ xs.length ∧ Pv i σ H, ⟨xs.length, by simp, Nat.zero_le _, h0⟩, ?_⟩
  rintro i m σ H ⟨rfl, hi, p⟩
  have s := hl i σ H hi p
  by_cases hlt : i < xs.length
  · refine .inr ⟨hJ.go i H s hlt, Pv (i + 1), fun σ' H' p' => ⟨xs.length - (i + 1), by omega, rfl, hlt, p'⟩, fun x H' y => ?_⟩
    obtain ⟨e, y2⟩ := hJ.yld i H x H' s y
    subst e
    exact hs i x σ _ y2 p
  · have e : i = xs.length := by omega
    subst e
    exact .inl ⟨hJ.stop _ H s (Nat.le_refl _), hd σ H p⟩
theorem mul_den (q : Rat) : q * ((q.den : Int) : Rat) = (q.num : Rat) := by
  have e := Rat.num_divInt_den q
  rw [Rat.divInt_eq_div] at e
  have d0 : ((q.den : Nat) : Rat) ≠ 0 := by
    intro z
    have := (Rat.natCast_eq_zero_iff (a := q.den)).mp z
    have := q.den_pos
    omega
  rw [Rat.intCast_natCast] at e ⊢
  generalize ((q.den : Nat) : Rat) = d at *
  generalize (q.num : Rat) = n at *
  rw [← e, Rat.div_mul_cancel d0]
/-- the denominator divides D -/
def DvQ (D : Int) (q : Rat) : Prop := (q.den : Int) ∣ D
theorem DvQ.int {D : Int} {q : Rat} (h : DvQ D q) : q * D = ((q.num * (D / q.den) : Int) : Rat) := by
  obtain ⟨c, hc⟩ := h
  rw [hc, Int.mul_ediv_cancel_left c (den_ne q), Rat.intCast_mul, Rat.intCast_mul, ← mul_den q]
  grind
theorem ipos {i : Int} (h : 0 < i) : (0 : Rat) < (i : Rat) := Rat.intCast_pos.mpr h
theorem DvQ.of {D m : Int} {q : Rat} (h : q * D = (m : Rat)) : DvQ D q := by
  have e : q.num * D = m * q.den := by
    apply Rat.intCast_inj.mp
    rw [Rat.intCast_mul, Rat.intCast_mul, ← mul_den q, ← h]
    grind
  refine dvd_cop (z := q.num) ⟨m, ?_⟩ ?_
  · rw [Int.mul_comm D, e, Int.mul_comm]
  · rw [Int.gcd_comm]; exact q.reduced
def Btw (B x : Rat) : Prop := -B ≤ x ∧ x ≤ B
theorem Btw.up {A B x : Rat} (h : Btw A x) (l : A ≤ B) : Btw B x := ⟨by have := h.1; grind, by have := h.2; grind⟩
theorem DvQ.add {E : Int} {x y : Rat} (h : DvQ E x) (k : DvQ E y) : DvQ E (x + y) := by
  refine DvQ.of (m := x.num * (E / x.den) + y.num * (E / y.den)) ?_
  rw [Rat.intCast_add, ← h.int, ← k.int]
  grind
theorem DvQ.mul {A B : Int} {x y : Rat} (h : DvQ A x) (k : DvQ B y) : DvQ (A * B) (x * y) := by
  refine DvQ.of (m := x.num * (A / x.den) * (y.num * (B / y.den))) ?_
  rw [Rat.intCast_mul, Rat.intCast_mul (x.num * _), ← h.int, ← k.int]
  grind
theorem DvQ.up {A B : Int} {x : Rat} (h : DvQ A x) (d : A ∣ B) : DvQ B x := Int.dvd_trans h d
theorem DvQ.zero {A : Int} : DvQ A 0 := Int.one_dvd A
/-- a rational over E, not greater than 2^M -/
def Num (E : Int) (M : Nat) (q : Rat) : Prop := DvQ E q ∧ Btw ((2 ^ M : Nat) : Rat) q
theorem num_bd {E : Int} {A M : Nat} {q : Rat} (E0 : 0 < E) (EB : E.natAbs < 2 ^ A) (h : Num E M q) : Bt q (M + A) := by
  have dp : (0 : Int) < (q.den : Int) := by have := q.den_pos; omega
  have p := ipos dp
  have hd : (q.den : Int) ≤ E := Int.le_of_dvd E0 h.1
  have dB : ((q.den : Int)).natAbs < 2 ^ A := by omega
  have e := (mul_den q).symm
  have a1 : (q.num : Rat) ≤ ((((2 ^ M : Nat) : Int) * (q.den : Int) : Int) : Rat) := by
    rw [e, Rat.intCast_mul, Rat.intCast_natCast (2 ^ M)]
    exact Rat.mul_le_mul_of_nonneg_right h.2.2 (Rat.le_of_lt p)
  have a2 : ((-((2 ^ M : Nat) : Int) * (q.den : Int) : Int) : Rat) ≤ (q.num : Rat) := by
    rw [e, Rat.intCast_mul, Rat.intCast_neg, Rat.intCast_natCast (2 ^ M)]
    exact Rat.mul_le_mul_of_nonneg_right h.2.1 (Rat.le_of_lt p)
  have b1 := Rat.intCast_le_intCast.mp a1
  have b2 := Rat.intCast_le_intCast.mp a2
  rw [Int.neg_mul] at b2
  have c : ((2 ^ M : Nat) : Int) * (q.den : Int) < ((2 ^ (M + A) : Nat) : Int) := by
    rw [Nat.pow_add, Int.natCast_mul]
    have := Nat.two_pow_pos M
    exact Int.mul_lt_mul_of_pos_left (by omega) (by omega)
  refine ⟨?_, Nat.lt_of_lt_of_le dB (Nat.pow_le_pow_right (by decide) (by omega))⟩
  show q.num.natAbs < _
  generalize ((2 ^ M : Nat) : Int) * (q.den : Int) = z at *
  generalize (2 ^ (M + A) : Nat) = y at *
  omega
theorem Btw.add {A B x y : Rat} (h : Btw A x) (k : Btw B y) : Btw (A + B) (x + y) := ⟨by have := h.1; have := k.1; grind, by have := h.2; have := k.2; grind⟩
theorem num_sum {E : Int} {M : Nat} : ∀ {qs : List Rat} (s : Rat) (k : Nat), DvQ E s → Btw ((k : Rat) * ((2 ^ M : Nat) : Rat)) s → (∀ q ∈ qs, Num E M q) → DvQ E (qs.foldl (· + ·) s) ∧ Btw (((k + qs.length : Nat) : Rat) * ((2 ^ M : Nat) : Rat)) (qs.foldl (· + ·) s)
  | [], s, k, h1, h2, _ => ⟨h1, h2⟩
  | q :: qs, s, k, h1, h2, h => by
    have hq := h q List.mem_cons_self
    have b := num_sum (qs := qs) (s + q) (k + 1) (h1.add hq.1) (by
      rw [show ((k + 1 : Nat) : Rat) = (k : Rat) + 1 by rw [Rat.natCast_add]; rfl]
      have := h2.add hq.2
      refine this.up ?_
      grind) fun x hx => h x (List.mem_cons_of_mem _ hx)
    rw [List.foldl_cons]
    refine ⟨b.1, ?_⟩
    rw [List.length_cons, show k + (qs.length + 1) = k + 1 + qs.length by omega]
    exact b.2
/-- sums of at most six such rationals -/
theorem num_sum_bd {E : Int} {A M : Nat} {qs : List Rat} (E0 : 0 < E) (EB : E.natAbs < 2 ^ A) (l : qs.length ≤ 6) (h : ∀ q ∈ qs, Num E M q) : Bt (qs.foldl (· + ·) 0) (M + 3 + A) := by
  have z := num_sum (E := E) (M := M) (qs := qs) 0 0 DvQ.zero ⟨by show -((0 : Rat) * _) ≤ 0; rw [Rat.zero_mul]; decide +kernel, by show (0 : Rat) ≤ 0 * _; rw [Rat.zero_mul]; exact Rat.le_refl⟩ h
  refine num_bd E0 EB ⟨z.1, z.2.up ?_⟩
  rw [Nat.zero_add, Nat.pow_add, Rat.natCast_mul, Rat.mul_comm ((2 ^ M : Nat) : Rat)]
  refine Rat.mul_le_mul_of_nonneg_right ?_ Rat.natCast_nonneg
  exact Rat.natCast_le_natCast.mpr (by omega)
/-! ### lists of fractions -/
/-- a list of n fractions of B bits, at none of the places bad -/
def VecAt (K : PySem.W.Frag) (H : Hp) (B n : Nat) (bad : List Addr) (v : V) : Prop := ∃ p zs, v = .ref p ∧ p ∉ bad ∧ H p = some (.lst zs) ∧ zs.length = n ∧ ∀ z ∈ zs, ∃ q, FR K H z q B
section
variable {K : PySem.W.Frag} {H H' : Hp} {B n : Nat} {bad : List Addr} {v : V}
theorem VecAt.same (h : VecAt K H B n bad v) (s : Same H H') : VecAt K H' B n bad v := by
  obtain ⟨p, zs, e, nb, hp, l, f⟩ := h
  exact ⟨p, zs, e, nb, s _ _ hp, l, fun z hz => by obtain ⟨q, g⟩ := f z hz; exact ⟨q, g.same s⟩⟩
theorem VecAt.kp {r : Addr} (h : VecAt K H B n bad v) (R : Rg H r) (k : Kp r H H') (m : r ∈ bad) : VecAt K H' B n bad v := by
  obtain ⟨p, zs, e, nb, hp, l, f⟩ := h
  exact ⟨p, zs, e, nb, k.1 _ _ (fun z => nb (z ▸ m)) hp, l, fun z hz => by obtain ⟨q, g⟩ := f z hz; exact ⟨q, g.kp R k⟩⟩
theorem VecAt.put {D : Addr} {l l' : List V} (h : VecAt K H B n bad v) (hD : H D = some (.lst l)) (m : D ∈ bad) : VecAt K (upd H D (.lst l')) B n bad v := by
  obtain ⟨p, zs, e, nb, hp, l, f⟩ := h
  exact ⟨p, zs, e, nb, by rw [upd_ne (show p ≠ D from fun z => nb (by rw [z]; exact m))]; exact hp, l, fun z hz => by obtain ⟨q, g⟩ := f z hz; exact ⟨q, g.put hD⟩⟩
theorem VecAt.sub {bad' : List Addr} (h : VecAt K H B n bad v) (s : ∀ x ∈ bad', x ∈ bad) : VecAt K H B n bad' v := by
  obtain ⟨p, zs, e, nb, hp, l, f⟩ := h
  exact ⟨p, zs, e, fun z => nb (s _ z), hp, l, f⟩
theorem VecAt.up {C : Nat} (h : VecAt K H B n bad v) (l : B ≤ C) : VecAt K H C n bad v := by
  obtain ⟨p, zs, e, nb, hp, l', f⟩ := h
  exact ⟨p, zs, e, nb, hp, l', fun z hz => by obtain ⟨q, g⟩ := f z hz; exact ⟨q, g.up l⟩⟩
end
/-- fractions, whichever -/
def FOf (K : PySem.W.Frag) (H : Hp) (B : Nat) (xs : List V) : Prop := ∀ z ∈ xs, ∃ q, FR K H z q B
theorem FOf.same {K : PySem.W.Frag} {H H' : Hp} {B : Nat} {xs : List V} (h : FOf K H B xs) (s : Same H H') : FOf K H' B xs := fun z hz => by obtain ⟨q, g⟩ := h z hz; exact ⟨q, g.same s⟩
theorem FOf.kp {K : PySem.W.Frag} {H H' : Hp} {r : Addr} {B : Nat} {xs : List V} (h : FOf K H B xs) (R : Rg H r) (k : Kp r H H') : FOf K H' B xs := fun z hz => by obtain ⟨q, g⟩ := h z hz; exact ⟨q, g.kp R k⟩
theorem FOf.put {K : PySem.W.Frag} {H : Hp} {D : Addr} {B : Nat} {l l' xs : List V} (h : FOf K H B xs) (hD : H D = some (.lst l)) : FOf K (upd H D (.lst l')) B xs := fun z hz => by obtain ⟨q, g⟩ := h z hz; exact ⟨q, g.put hD⟩
theorem FOf.nil {K : PySem.W.Frag} {H : Hp} {B : Nat} : FOf K H B [] := fun z hz => by cases hz
theorem FOf.snoc {K : PySem.W.Frag} {H : Hp} {B : Nat} {xs : List V} {y : V} {q : Rat} (h : FOf K H B xs) (g : FR K H y q B) : FOf K H B (xs ++ [y]) := fun z hz => by
  rcases List.mem_append.mp hz with h' | h'
  · exact h z h'
  · rw [List.mem_singleton.mp h']; exact ⟨q, g⟩
theorem zipAK {X : Cx} {K : PySem.W.Frag} (h : X.K = K) {e e2 : Expr} {ta : TA} {p pos tpos : Pos} {elts : List Expr} {kk : Nat} (hg : Gl X "zip") (hm : X.mg "zip" = none) (ha : PA X [e, e2] ta)
    (hs : starEach [e, e2] X.env = (false, eval e X.env) :: starEach [e2] X.env := by rfl) (hpl : (backTo pos (starEach [e2] X.env)).any (·.1) = false := by rfl) :
    PI X (.Tuple elts kk tpos) (.Call (.Name "zip" p) [e, e2] [] pos) (RZ.iZipA K ta) := by subst h; exact RZ.pi_zipA hg hm ha hs hpl
theorem cutToL (xs : List V) (q : Nat) (h : q ≤ xs.length) : cutV xs none (some (q : Int)) = xs.take q := by
  unfold cutV
  rw [HT.sIx_none, show HT.sIx xs.length xs.length (some (q : Int)) = min q xs.length from HT.sIx_nat xs.length xs.length q, List.drop_zero, show min q xs.length - 0 = q by omega]
theorem cutFromL (xs : List V) (q : Nat) (h : q ≤ xs.length) : cutV xs (some (q : Int)) none = xs.drop q := by
  unfold cutV
  rw [HT.sIx_none, show HT.sIx xs.length 0 (some (q : Int)) = min q xs.length from HT.sIx_nat xs.length 0 q, show min q xs.length = q by omega, List.take_of_length_le (by rw [List.length_drop]; omega)]
/-! ### rows of integers -/
/-- a list of integers -/
def IL (H : Hp) (v : V) (xs : List Int) : Prop := ∃ p, v = .ref p ∧ H p = some (.lst (xs.map V.int))
theorem IL.same {H H' : Hp} {v : V} {xs : List Int} (h : IL H v xs) (s : Same H H') : IL H' v xs := by
  obtain ⟨p, e, hp⟩ := h
  exact ⟨p, e, s _ _ hp⟩
theorem IL.put {H : Hp} {v : V} {xs : List Int} {D : Addr} {l : List V} {o : HO} (h : IL H v xs) (n : ∀ p, v = .ref p → p ≠ D) : IL (upd H D o) v xs := by
  obtain ⟨p, e, hp⟩ := h
  exact ⟨p, e, by rw [upd_ne (n p e)]; exact hp⟩
/-- less than 2 ^ B -/
def Ltb (B : Nat) (xs : List Int) : Prop := ∀ x ∈ xs, x.natAbs < 2 ^ B
theorem Ltb.up {B C : Nat} {xs : List Int} (h : Ltb B xs) (l : B ≤ C) : Ltb C xs := fun x hx => Nat.lt_of_lt_of_le (h x hx) (Nat.pow_le_pow_right (by decide) l)
theorem int_at {xs : List Int} {i : Nat} {v : V} (h : (xs.map V.int)[i]? = some v) : ∃ x, xs[i]? = some x ∧ v = .int x := by
  rw [List.getElem?_map] at h
  cases e : xs[i]? with
  | none => rw [e] at h; cases h
  | some x => rw [e] at h; exact ⟨x, rfl, (Option.some.inj h).symm⟩
/-- a list of integers at another place than C -/
def ILx (C : Addr) (H : Hp) (v : V) (xs : List Int) : Prop := ∃ p, v = .ref p ∧ p ≠ C ∧ H p = some (.lst (xs.map V.int))
section
variable {C : Addr} {H H' : Hp} {v : V} {xs : List Int}
theorem ILx.same (h : ILx C H v xs) (s : Same H H') : ILx C H' v xs := by
  obtain ⟨p, e, n, hp⟩ := h
  exact ⟨p, e, n, s _ _ hp⟩
theorem ILx.put {o : HO} (h : ILx C H v xs) : ILx C (upd H C o) v xs := by
  obtain ⟨p, e, n, hp⟩ := h
  exact ⟨p, e, n, by rw [upd_ne n]; exact hp⟩
theorem ILx.il (h : ILx C H v xs) : IL H v xs := by
  obtain ⟨p, e, n, hp⟩ := h
  exact ⟨p, e, hp⟩
theorem IL.x (h : IL H v xs) (n : H C = none) : ILx C H v xs := by
  obtain ⟨p, e, hp⟩ := h
  exact ⟨p, e, ne_of_none hp n, hp⟩
end
theorem atI_end {xs : List V} {n : Nat} {x : V} (l : xs.length = n + 1) (h : xs[n]? = some x) : atI xs (-1) = some x := by
  have e : xs = xs.take n ++ [x] := by
    have e2 := List.take_append_drop n xs
    have e3 : xs.drop n = [x] := by
      have hn : n < xs.length := by omega
      rw [List.drop_eq_getElem_cons hn, List.drop_of_length_le (by omega)]
      rw [List.getElem?_eq_getElem hn] at h
      rw [Option.some.inj h]
    rw [e3] at e2
    exact e2.symm
  rw [e]
  exact atI_last _ _
theorem ixN_nat {n j : Nat} {i : Int} (e : i = (j : Int)) (h : j < n) : ixN n i = some j := by
  subst e
  unfold ixN
  rw [if_pos (by omega), if_pos (by omega), show ((j : Nat) : Int).toNat = j by omega]
/-- sum of products -/
def dotI (xs ys : List Int) : Int := ((xs.zip ys).map fun p => p.1 * p.2).sum
def dotQ (qs : List Rat) (ys : List Int) : Rat := ((qs.zip ys).map fun p => p.1 * (p.2 : Rat)).sum
theorem dot_scaled {s : Rat} : ∀ {zs : List Int} {qs : List Rat} {ys : List Int}, Sc s zs qs → (dotI zs ys : Rat) = s * dotQ qs ys
  | [], [], ys, _ => by
    show ((0 : Int) : Rat) = s * 0
    grind
  | [], _ :: _, _, h => by have := h.1; simp at this
  | _ :: _, [], _, h => by have := h.1; simp at this
  | z :: zs, q :: qs, [], _ => by
    show ((0 : Int) : Rat) = s * 0
    grind
  | z :: zs, q :: qs, y :: ys, h => by
    have h0 : (z : Rat) = q * s := h.2 0 z q rfl rfl
    have h1 : Sc s zs qs := ⟨by have := h.1; simpa using this, fun i x v a b => h.2 (i + 1) x v a b⟩
    have ih := dot_scaled (ys := ys) h1
    show ((z * y + dotI zs ys : Int) : Rat) = s * (q * (y : Rat) + dotQ qs ys)
    rw [Rat.intCast_add, Rat.intCast_mul, ih, h0]
    grind
theorem dotI_take {zs ys : List Int} {j : Nat} {z y : Int} (hz : zs[j]? = some z) (hy : ys[j]? = some y) : ((zs.zip ys).map fun p => p.1 * p.2).take (j + 1) = ((zs.zip ys).map fun p => p.1 * p.2).take j ++ [z * y] := by
  rw [List.take_add_one, List.getElem?_map, (List.getElem?_zip_eq_some (z := (z, y))).mpr ⟨hz, hy⟩]
  rfl
theorem listK {X : Cx} {K : PySem.W.Frag} (h : X.K = K) : CallR X (.type "list") (fun xs H Q => ∃ p ys, xs = [.ref p] ∧ (SqL K H p ys ∨ SqT K H p ys) ∧ ∀ l, H l = none → Q (.ref l) (upd H l (.lst ys))) := by subst h; exact call_list_of
/-- rows of one length: lists, or (tb) tuples -/
def RowsAt (tb : Bool) (K : PySem.W.Frag) (H : Hp) (R : Addr) (rv : List (List V)) : Prop := ∃ ls : List Addr, (SqT K H R (ls.map V.ref) ∨ SqL K H R (ls.map V.ref)) ∧ ls.length = rv.length ∧ ∀ (k : Nat) l xs, ls[k]? = some l → rv[k]? = some xs → ZpN.Sq tb K H l xs
/-- a column -/
def colV (rv : List (List V)) (i : Nat) : List V := rv.map fun xs => xs.getD i .non
/-- the columns -/
def colsV (rv : List (List V)) (w : Nat) : List (List V) := (List.range w).map fun j => colV rv j
theorem zsq_same {tb : Bool} {K : PySem.W.Frag} {H H' : Hp} {a : Addr} {xs : List V} (h : ZpN.Sq tb K H a xs) (s : Same H H') : ZpN.Sq tb K H' a xs := by
  cases tb
  · exact s.seq h
  · exact Same.T s h
theorem lc_zN {tb : Bool} {K : PySem.W.Frag} {ls : List Addr} {rv : List (List V)} {w : Nat} {H0 : Hp} {g : TG} {tt : TT} {te : TE} {vs : List Nat} {σ : L2.St} {D : Addr} {Qd : Hp → Prop} (hls : ∀ (k : Nat) l xs, ls[k]? = some l → rv[k]? = some xs → ZpN.Sq tb K H0 l xs) (ll : ls.length = rv.length) (hw : ∀ xs ∈ rv, xs.length = w) (h0 : rv = [] → w = 0)
    (Pv : Nat → Hp → Prop) (hP : Pv 0 (upd H0 D (.lst []))) (hl : ∀ i H, i ≤ w → Pv i H → Same H0 H)
    (hs : ∀ i H t, i < w → Pv i H → H t = none → g (.ref t) (wipe σ vs) (upd H t (.tup (colV rv i))) fun σ2 H2 => wipe σ2 vs = wipe σ vs ∧ tt σ2 H2 fun b H3 =>
      if b = true then te σ2 H3 fun y H4 => ∃ acc, H4 D = some (.lst acc) ∧ acc.length < sizeLine ∧ Pv (i + 1) (upd H4 D (.lst (acc ++ [y]))) else Pv (i + 1) H3) (hd : ∀ H, Pv w H → Qd H) :
    ∃ W : Nat → Nat → Hp → Prop, (∃ m, W 0 m (upd H0 D (.lst []))) ∧ ∀ i m H, W i m H →
      ((ZpN.IzN tb K ls).stop i H ∧ Qd H) ∨ ((ZpN.IzN tb K ls).go i H ∧ ∃ Nx : Hp → Prop, (∀ H', Nx H' → ∃ m', m' < m ∧ W (i + 1) m' H') ∧ ∀ x H', (ZpN.IzN tb K ls).yld i H x H' → g x (wipe σ vs) H' fun σ2 H2 => wipe σ2 vs = wipe σ vs ∧ tt σ2 H2 fun b H3 =>
        if b = true then te σ2 H3 fun y H4 => ∃ acc, H4 D = some (.lst acc) ∧ acc.length < sizeLine ∧ Nx (upd H4 D (.lst (acc ++ [y]))) else Nx H3) := by
  refine ⟨fun i m H => m = w - i ∧ i ≤ w ∧ Pv i H, ⟨w, by simp, Nat.zero_le _, hP⟩, ?_⟩
  rintro i m H ⟨rfl, hi, p⟩
  have s := hl i H hi p
  have at' : ∀ (k : Nat) l, ls[k]? = some l → ∃ xs, rv[k]? = some xs ∧ ZpN.Sq tb K H l xs ∧ xs.length = w := fun k l e => by
    have hk : k < rv.length := by
      have := (List.getElem?_eq_some_iff.mp e).1
      omega
    have e2 : rv[k]? = some (rv[k]'hk) := List.getElem?_eq_getElem hk
    exact ⟨_, e2, zsq_same (hls k l _ e e2) s, hw _ (List.mem_of_getElem? e2)⟩
  by_cases hlt : i < w
  · have pos : 0 < ls.length := by
      cases rv with
      | nil => have := h0 rfl; omega
      | cons x rv => rw [ll]; exact Nat.succ_pos _
    refine .inr ⟨⟨pos, fun k l e => ?_⟩, Pv (i + 1), fun H' p' => ⟨w - (i + 1), by omega, rfl, hlt, p'⟩, fun x H' y => ?_⟩
    · obtain ⟨xs, _, h1, h2⟩ := at' k l e
      exact ⟨xs, _, h1, List.getElem?_eq_getElem (by omega)⟩
    · obtain ⟨t, ys, rfl, nt, rfl, yl, hy⟩ := y
      have ey : ys = colV rv i := by
        apply List.ext_getElem?
        intro k
        by_cases hk : k < ls.length
        · have e : ls[k]? = some (ls[k]'hk) := List.getElem?_eq_getElem hk
          obtain ⟨xs, e2, h1, h2⟩ := at' k _ e
          rw [← hy k _ e xs h1]
          unfold colV
          rw [List.getElem?_map, e2]
          show xs[i]? = some (xs.getD i .non)
          rw [List.getD_eq_getElem?_getD, List.getElem?_eq_getElem (by omega)]
          rfl
        · rw [List.getElem?_eq_none (by omega), List.getElem?_eq_none (by unfold colV; rw [List.length_map]; omega)]
      subst ey
      exact hs i H t hlt p nt
  · have e : i = w := by omega
    subst e
    refine .inl ⟨fun k l e => ?_, hd H p⟩
    obtain ⟨xs, _, h1, h2⟩ := at' k l e
    exact ⟨xs, h1, fun _ => by omega⟩
def rIxA (K : PySem.W.Frag) : R2 := fun x y H Q => rIxL K x y H Q ∨ rIxT K x y H Q
theorem ix_any {X : Cx} : IxR X (rIxA X.K) := fun value slice pins s σ H x y v u Q I rx ry h e => by
  rcases h with h | h
  · exact ix_list value slice pins s σ H x y v u Q I rx ry h e
  · exact ix_tup value slice pins s σ H x y v u Q I rx ry h e
/-- enumerate over what stands -/
structure EnIt (J : It) (H : Hp) (xs : List V) : Prop where
  go : ∀ i H', Same H H' → i < xs.length → J.go i H'
  stop : ∀ i H', Same H H' → xs.length ≤ i → J.stop i H'
  yld : ∀ i H' v H'', Same H H' → J.yld i H' v H'' → ∃ t x, v = .ref t ∧ H' t = none ∧ H'' = upd H' t (.tup [.int (i : Nat), x]) ∧ xs[i]? = some x
theorem enIt_l {K : PySem.W.Frag} {H : Hp} {a : Addr} {xs : List V} (h : SqL K H a xs) : EnIt (Ite K a) H xs :=
  ⟨fun i H' s hi => ⟨xs, xs[i], s.seq h, List.getElem?_eq_getElem hi⟩, fun i H' s hi => ⟨xs, s.seq h, hi⟩, fun i H' v H'' s hy => by
    obtain ⟨t, x, e1, e2, e3, f⟩ := hy
    exact ⟨t, x, e1, e2, e3, f xs (s.seq h)⟩⟩
theorem enIt_t {K : PySem.W.Frag} {H : Hp} {a : Addr} {xs : List V} (h : SqT K H a xs) : EnIt (EnT.Iet K a) H xs :=
  ⟨fun i H' s hi => ⟨xs, xs[i], Same.T s h, List.getElem?_eq_getElem hi⟩, fun i H' s hi => ⟨xs, Same.T s h, hi⟩, fun i H' v H'' s hy => by
    obtain ⟨t, x, e1, e2, e3, f⟩ := hy
    exact ⟨t, x, e1, e2, e3, f xs (Same.T s h)⟩⟩
theorem en_or {K : PySem.W.Frag} {ta : TA} {σ : L2.St} {H : Hp} {a : Addr} {xs : List V} {R : It → Hp → Prop} (hta : ∀ Q : List V → Hp → Prop, Q [.ref a] H → ta σ H Q) (h : SqT K H a xs ∨ SqL K H a xs) (k : ∀ J, EnIt J H xs → R J H) : iEnum K ta σ H R ∨ EnT.iEnT K ta σ H R := by
  rcases h with h | h
  · exact .inr (hta _ ⟨a, xs, rfl, h, k _ (enIt_t h)⟩)
  · exact .inl (hta _ ⟨a, xs, rfl, h, k _ (enIt_l h)⟩)
theorem len_any {K : PySem.W.Frag} {H : Hp} {a : Addr} {xs : List V} (h : SqT K H a xs ∨ SqL K H a xs) : LenV K (.ref a) H xs.length := by
  rcases h with h | h
  · exact .inr ⟨_, h, rfl⟩
  · exact .inl ⟨_, h, rfl⟩
theorem zsq_or {tb : Bool} {K : PySem.W.Frag} {H : Hp} {l : Addr} {xs : List V} (h : ZpN.Sq tb K H l xs) : SqT K H l xs ∨ SqL K H l xs := by
  cases tb
  · exact .inr h
  · exact .inl h
theorem ixA {K : PySem.W.Frag} {H : Hp} {a : Addr} {xs : List V} {i : Int} {v : V} {Q : VK} (h : SqT K H a xs ∨ SqL K H a xs) (e : atI xs i = some v) (q : Q v H) : rIxA K (.ref a) (.int i) H Q := by
  rcases h with h | h
  · exact .inr ⟨a, xs, i, v, rfl, rfl, h, e, q⟩
  · exact .inl ⟨a, xs, i, v, rfl, rfl, h, e, q⟩
theorem any_same {K : PySem.W.Frag} {H H' : Hp} {a : Addr} {xs : List V} (h : SqT K H a xs ∨ SqL K H a xs) (s : Same H H') : SqT K H' a xs ∨ SqL K H' a xs := h.imp (fun h => Same.T s h) fun h => s.seq h
theorem paStarK {X : Cx} {K : PySem.W.Frag} (h : X.K = K) {e : Expr} {es : List Expr} {te : TE} {t : TA} {p : Pos} (he : PE X e te) (hr : PA X es t) (hs : starEach (.Starred e p :: es) X.env = (true, eval e X.env) :: starEach es X.env := by rfl) : PA X (.Starred e p :: es) (StX.tStar K te t) := by subst h; exact StX.pa_star he hr hs
/-- the product of all denominators -/
def dprod : List Rat → Int
  | [] => 1
  | q :: qs => (q.den : Int) * dprod qs
theorem dprod_pos : ∀ qs : List Rat, 0 < dprod qs
  | [] => by decide
  | q :: qs => Int.mul_pos (by have := q.den_pos; omega) (dprod_pos qs)
theorem dprod_dvd : ∀ {qs : List Rat} {q : Rat}, q ∈ qs → (q.den : Int) ∣ dprod qs
  | x :: qs, q, h => by
    rcases List.mem_cons.mp h with rfl | h
    · exact ⟨_, rfl⟩
    · exact Int.dvd_trans (dprod_dvd h) ⟨(x.den : Int), Int.mul_comm _ _⟩
theorem dprod_bd {B : Nat} : ∀ {qs : List Rat}, (∀ q ∈ qs, ((q.den : Int)).natAbs < 2 ^ B) → (dprod qs).natAbs ≤ 2 ^ (B * qs.length)
  | [], _ => by show (1 : Int).natAbs ≤ 2 ^ (B * 0); rw [Nat.mul_zero, Nat.pow_zero]; decide
  | q :: qs, h => by
    show ((q.den : Int) * dprod qs).natAbs ≤ 2 ^ (B * (qs.length + 1))
    rw [Int.natAbs_mul, Nat.mul_succ, Nat.add_comm, Nat.pow_add]
    exact Nat.mul_le_mul (Nat.le_of_lt (h q List.mem_cons_self)) (dprod_bd fun x hx => h x (List.mem_cons_of_mem _ hx))
def dotR (xs ys : List Rat) : Rat := ((xs.zip ys).map fun p => p.1 * p.2).sum
theorem dotQ_sc {s : Rat} : ∀ {xs : List Rat} {fs : List Int} {ys : List Rat}, Sc s fs ys → dotQ xs fs = s * dotR xs ys
  | [], _, _, _ => by
    show (0 : Rat) = s * 0
    grind
  | _ :: _, [], [], _ => by
    show (0 : Rat) = s * 0
    grind
  | _ :: _, [], _ :: _, h => by have := h.1; simp at this
  | _ :: _, _ :: _, [], h => by have := h.1; simp at this
  | x :: xs, f :: fs, y :: ys, h => by
    have h0 : (f : Rat) = y * s := h.2 0 f y rfl rfl
    have h1 : Sc s fs ys := ⟨by have := h.1; simpa using this, fun i a v p q => h.2 (i + 1) a v p q⟩
    have ih := dotQ_sc (xs := xs) h1
    show x * (f : Rat) + dotQ xs fs = s * (x * y + dotR xs ys)
    rw [ih, h0]
    grind
theorem zero_sc {s x y : Rat} (s0 : 0 < s) (e : x = s * y) : decide (x = 0) = decide (y = 0) := by
  by_cases g : y = 0
  · rw [decide_eq_true g, decide_eq_true (by rw [e, g]; grind)]
  · rw [decide_eq_false g, decide_eq_false]
    intro z
    rw [e] at z
    rcases Rat.mul_eq_zero.mp z with h | h
    · rw [h] at s0
      exact absurd s0 (by decide)
    · exact g h
/-- equations in memory: rows and targets of one kind, over one common multiple -/
structure EqsAt (tb tq ty : Bool) (K : PySem.W.Frag) (H : Hp) (R y : Addr) (rv : List (List V)) (ys : List V) (rq : List (List Rat)) (ts : List Rat) (w B G : Nat) (P : Int) : Prop where
  rows : ∃ ls : List Addr, ZpN.Sq tq K H R (ls.map V.ref) ∧ ls.length = rv.length ∧ ∀ (k : Nat) l xs, ls[k]? = some l → rv[k]? = some xs → ZpN.Sq tb K H l xs
  tgt : ZpN.Sq ty K H y ys
  yl : ys.length = rv.length
  wl : ∀ xs ∈ rv, xs.length = w
  r0 : rv = [] → w = 0
  rl : rv.length ≤ 900
  w9 : w ≤ 900
  ql : rq.length = rv.length
  fr : ∀ (k : Nat) xs qs, rv[k]? = some xs → rq[k]? = some qs → FRs K H xs qs B
  ft : FRs K H ys ts B
  B0 : 0 < B
  B8 : B ≤ 8000
  P0 : 0 < P
  pr : ∀ qs ∈ rq, ∀ q ∈ qs, (q.den : Int) ∣ P
  pt : ∀ q ∈ ts, (q.den : Int) ∣ P
  pB : P.natAbs ≤ 2 ^ G
  G8 : G + 1 ≤ 8000
theorem FRs.mv {K : PySem.W.Frag} {H H' : Hp} {xs : List V} {qs : List Rat} {B : Nat} (h : FRs K H xs qs B) (s : Same H H') : FRs K H' xs qs B := h.mono fun _ _ z => z.same s
theorem EqsAt.same {tb tq ty : Bool} {K : PySem.W.Frag} {H H' : Hp} {R y : Addr} {rv : List (List V)} {ys : List V} {rq : List (List Rat)} {ts : List Rat} {w B G : Nat} {P : Int} (h : EqsAt tb tq ty K H R y rv ys rq ts w B G P) (s : Same H H') : EqsAt tb tq ty K H' R y rv ys rq ts w B G P :=
  { h with
    rows := by
      obtain ⟨ls, a, b, c⟩ := h.rows
      exact ⟨ls, zsq_same a s, b, fun k l xs p q => zsq_same (c k l xs p q) s⟩
    tgt := zsq_same h.tgt s
    fr := fun k xs qs p q => (h.fr k xs qs p q).mv s
    ft := h.ft.mv s }
theorem EqsAt.at {tb tq ty : Bool} {K : PySem.W.Frag} {H : Hp} {R y : Addr} {rv : List (List V)} {ys : List V} {rq : List (List Rat)} {ts : List Rat} {w B G : Nat} {P : Int} (h : EqsAt tb tq ty K H R y rv ys rq ts w B G P) : RowsAt tb K H R rv := by
  obtain ⟨ls, a, b, c⟩ := h.rows
  exact ⟨ls, zsq_or a, b, c⟩
/-- zip of two that stand -/
structure ZpIt (J : It) (H : Hp) (xs ys : List V) : Prop where
  go : ∀ i H', Same H H' → i < xs.length → i < ys.length → J.go i H'
  stop : ∀ i H', Same H H' → i = xs.length → J.stop i H'
  yld : ∀ i H' v H'', Same H H' → J.yld i H' v H'' → ∃ t x y, v = .ref t ∧ H' t = none ∧ H'' = upd H' t (.tup [x, y]) ∧ xs[i]? = some x ∧ ys[i]? = some y
theorem zp_or {tq : Bool} {K : PySem.W.Frag} {ta : TA} {σ : L2.St} {H : Hp} {a b : Addr} {xs ys : List V} {R : It → Hp → Prop} (hta : ∀ Q : List V → Hp → Prop, Q [.ref a, .ref b] H → ta σ H Q) (h : ZpN.Sq tq K H a xs) (h2 : ZpN.Sq tq K H b ys) (k : ∀ J, ZpIt J H xs ys → R J H) : RZ.iZipA K ta σ H R := by
  cases tq
  · have h' : SqL K H a xs := h
    have h2' : SqL K H b ys := h2
    refine hta _ ⟨a, b, xs, ys, rfl, .inl ⟨h', h2', k _ ⟨fun i H' s hi hj => ⟨xs, ys, xs[i], ys[i], s.seq h', s.seq h2', List.getElem?_eq_getElem hi, List.getElem?_eq_getElem hj⟩, fun i H' s hi => ⟨xs, ys, s.seq h', s.seq h2', .inl (Nat.le_of_eq hi.symm)⟩, fun i H' v H'' s hy => ?_⟩⟩⟩
    obtain ⟨t, x, y, e1, e2, e3, f1, f2⟩ := hy
    exact ⟨t, x, y, e1, e2, e3, f1 _ (s.seq h'), f2 _ (s.seq h2')⟩
  · have h' : SqT K H a xs := h
    have h2' : SqT K H b ys := h2
    refine hta _ ⟨a, b, xs, ys, rfl, .inr ⟨h', h2', k _ ⟨fun i H' s hi hj => ⟨xs, ys, xs[i], ys[i], Same.T s h', Same.T s h2', List.getElem?_eq_getElem hi, List.getElem?_eq_getElem hj⟩, fun i H' s hi => ⟨xs, ys, Same.T s h', Same.T s h2', .inl (Nat.le_of_eq hi.symm)⟩, fun i H' v H'' s hy => ?_⟩⟩⟩
    obtain ⟨t, x, y, e1, e2, e3, f1, f2⟩ := hy
    exact ⟨t, x, y, e1, e2, e3, f1 _ (Same.T s h'), f2 _ (Same.T s h2')⟩
theorem lc_zp {J : It} {H0 : Hp} {xs ys : List V} {g : TG} {tt : TT} {te : TE} {vs : List Nat} {σ : L2.St} {D : Addr} {Qd : Hp → Prop} (hJ : ZpIt J H0 xs ys) (l : xs.length = ys.length) (Pv : Nat → Hp → Prop) (h0 : Pv 0 (upd H0 D (.lst []))) (hl : ∀ i H, i ≤ xs.length → Pv i H → Same H0 H)
    (hs : ∀ i x y t H, xs[i]? = some x → ys[i]? = some y → H t = none → Pv i H → g (.ref t) (wipe σ vs) (upd H t (.tup [x, y])) fun σ2 H2 => wipe σ2 vs = wipe σ vs ∧ tt σ2 H2 fun b H3 =>
      if b = true then te σ2 H3 fun y H4 => ∃ acc, H4 D = some (.lst acc) ∧ acc.length < sizeLine ∧ Pv (i + 1) (upd H4 D (.lst (acc ++ [y]))) else Pv (i + 1) H3) (hd : ∀ H, Pv xs.length H → Qd H) :
    ∃ W : Nat → Nat → Hp → Prop, (∃ m, W 0 m (upd H0 D (.lst []))) ∧ ∀ i m H, W i m H →
      (J.stop i H ∧ Qd H) ∨ (J.go i H ∧ ∃ Nx : Hp → Prop, (∀ H', Nx H' → ∃ m', m' < m ∧ W (i + 1) m' H') ∧ ∀ x H', J.yld i H x H' → g x (wipe σ vs) H' fun σ2 H2 => wipe σ2 vs = wipe σ vs ∧ tt σ2 H2 fun b H3 =>
        if b = true then te σ2 H3 fun y H4 => ∃ acc, H4 D = some (.lst acc) ∧ acc.length < sizeLine ∧ Nx (upd H4 D (.lst (acc ++ [y]))) else Nx H3) := by
  refine ⟨fun i m H => m = xs.length - i ∧ i ≤ xs.length ∧ Pv i H, ⟨xs.length, by simp, Nat.zero_le _, h0⟩, ?_⟩
  rintro i m H ⟨rfl, hi, p⟩
  have s := hl i H hi p
  by_cases hlt : i < xs.length
  · refine .inr ⟨hJ.go i H s hlt (by omega), Pv (i + 1), fun H' p' => ⟨xs.length - (i + 1), by omega, rfl, hlt, p'⟩, fun x H' y => ?_⟩
    obtain ⟨t, u, v, rfl, nt, rfl, e1, e2⟩ := hJ.yld i H x H' s y
    exact hs i u v t H e1 e2 nt p
  · have e : i = xs.length := by omega
    subst e
    exact .inl ⟨hJ.stop _ H s rfl, hd H p⟩
theorem zpIt_l {K : PySem.W.Frag} {H : Hp} {a b : Addr} {xs ys : List V} (h : SqL K H a xs) (h2 : SqL K H b ys) : ZpIt (Itz K a b) H xs ys :=
  ⟨fun i H' s hi hj => ⟨xs, ys, xs[i], ys[i], s.seq h, s.seq h2, List.getElem?_eq_getElem hi, List.getElem?_eq_getElem hj⟩, fun i H' s hi => ⟨xs, ys, s.seq h, s.seq h2, .inl (Nat.le_of_eq hi.symm)⟩, fun i H' v H'' s hy => by
    obtain ⟨t, x, y, e1, e2, e3, f1, f2⟩ := hy
    exact ⟨t, x, y, e1, e2, e3, f1 _ (s.seq h), f2 _ (s.seq h2)⟩⟩
theorem zpIt_t {K : PySem.W.Frag} {H : Hp} {a b : Addr} {xs ys : List V} (h : SqT K H a xs) (h2 : SqT K H b ys) : ZpIt (RZ.ItzT K a b) H xs ys :=
  ⟨fun i H' s hi hj => ⟨xs, ys, xs[i], ys[i], Same.T s h, Same.T s h2, List.getElem?_eq_getElem hi, List.getElem?_eq_getElem hj⟩, fun i H' s hi => ⟨xs, ys, Same.T s h, Same.T s h2, .inl (Nat.le_of_eq hi.symm)⟩, fun i H' v H'' s hy => by
    obtain ⟨t, x, y, e1, e2, e3, f1, f2⟩ := hy
    exact ⟨t, x, y, e1, e2, e3, f1 _ (Same.T s h), f2 _ (Same.T s h2)⟩⟩
theorem zpIt_lt {K : PySem.W.Frag} {H : Hp} {a b : Addr} {xs ys : List V} (h : SqL K H a xs) (h2 : SqT K H b ys) (l : ys.length = xs.length) : ZpIt (ZpL.Izl K a b) H xs ys :=
  ⟨fun i H' s hi hj => ⟨xs, ys, xs[i], ys[i], s.seq h, Same.T s h2, List.getElem?_eq_getElem hi, List.getElem?_eq_getElem hj⟩, fun i H' s hi => ⟨xs, ys, s.seq h, Same.T s h2, by omega, by omega, .inl hi⟩, fun i H' v H'' s hy => by
    obtain ⟨t, x, y, e1, e2, e3, f1, f2⟩ := hy
    exact ⟨t, x, y, e1, e2, e3, f1 _ (s.seq h), f2 _ (Same.T s h2)⟩⟩
/-- a column of values -/
def colQ (rq : List (List Rat)) (j : Nat) : List Rat := rq.map fun qs => qs.getD j 0
theorem EqsAt.col {tb tq ty : Bool} {K : PySem.W.Frag} {H : Hp} {R y : Addr} {rv : List (List V)} {ys : List V} {rq : List (List Rat)} {ts : List Rat} {w B G : Nat} {P : Int} (h : EqsAt tb tq ty K H R y rv ys rq ts w B G P) {j : Nat} (hj : j < w) : FRs K H (colV rv j) (colQ rq j) B ∧ ∀ q ∈ colQ rq j, (q.den : Int) ∣ P := by
  have at' : ∀ {i : Nat} {xs : List V} {qs : List Rat}, rv[i]? = some xs → rq[i]? = some qs → xs[j]? = some (xs.getD j .non) ∧ qs[j]? = some (qs.getD j 0) := fun {i xs qs} a b => by
    have wl := h.wl _ (List.mem_of_getElem? a)
    have fl := (h.fr i xs qs a b).len
    constructor
    · rw [List.getD_eq_getElem?_getD, List.getElem?_eq_getElem (by omega)]
      rfl
    · rw [List.getD_eq_getElem?_getD, List.getElem?_eq_getElem (by omega)]
      rfl
  have el : ∀ {i : Nat} {x : V} {q : Rat}, (colV rv j)[i]? = some x → (colQ rq j)[i]? = some q → FR K H x q B := fun {i x q} a b => by
    unfold colV at a
    unfold colQ at b
    rw [List.getElem?_map] at a b
    cases e1 : rv[i]? with
    | none => rw [e1] at a; cases a
    | some xs =>
      cases e2 : rq[i]? with
      | none => rw [e2] at b; cases b
      | some qs =>
        rw [e1] at a
        rw [e2] at b
        cases a
        cases b
        obtain ⟨c, d⟩ := at' e1 e2
        exact (h.fr i xs qs e1 e2).at c d
  refine ⟨⟨by unfold colV colQ; rw [List.length_map, List.length_map, List.length_map]; exact h.ql.symm, fun i x f a b => ?_⟩, fun q hq => ?_⟩
  · rw [List.getElem?_map] at b
    cases e : (colQ rq j)[i]? with
    | none => rw [e] at b; cases b
    | some q =>
      rw [e] at b
      cases b
      exact el a e
  · unfold colQ at hq
    obtain ⟨qs, hqs, rfl⟩ := List.mem_map.mp hq
    obtain ⟨i, hi, e⟩ := List.getElem_of_mem hqs
    have e2 : rq[i]? = some qs := by rw [List.getElem?_eq_getElem hi, e]
    have hi' : i < rv.length := by have := h.ql; omega
    obtain ⟨_, d⟩ := at' (List.getElem?_eq_getElem hi') e2
    exact h.pr qs hqs _ (List.mem_of_getElem? d)
/-- the values satisfy the equations -/
def solOk (rq : List (List Rat)) (ts qs : List Rat) (w : Nat) : Bool := decide (qs.length = w) && (rq.zip ts).all fun p => decide (dotR (p.1 ++ [p.2]) (qs ++ [-1]) = 0)
/-- the weights contradict -/
def certOk (rq : List (List Rat)) (ts qs : List Rat) (w : Nat) : Bool := decide (qs.length = rq.length) && ((List.range w).all (fun j => decide (dotR (colQ rq j) qs = 0)) && !decide (dotR ts qs = 0))
theorem red_dvd {n d : Int} (hd : d ≠ 0) : (red n d).2 ∣ d := by
  obtain ⟨s, g, a, b, hs, _, _, _, h2, _, e, _⟩ := red_parts (n := n) hd
  rw [e]
  show b ∣ d
  rcases hs with rfl | rfl
  · exact ⟨g, by rw [Int.mul_comm b g]; omega⟩
  · exact ⟨-g, by rw [Int.mul_neg, Int.mul_comm b g]; omega⟩
/-- a fraction of B bits over E -/
def FD (E : Int) (K : PySem.W.Frag) (H : Hp) (v : V) (q : Rat) (B : Nat) : Prop := FR K H v q B ∧ DvQ E q
section
variable {E : Int} {K : PySem.W.Frag} {H H' : Hp} {v : V} {q : Rat} {B C : Nat}
theorem FD.same (h : FD E K H v q B) (s : Same H H') : FD E K H' v q B := ⟨h.1.same s, h.2⟩
theorem FD.kp {r : Addr} (h : FD E K H v q B) (R : Rg H r) (k : Kp r H H') : FD E K H' v q B := ⟨h.1.kp R k, h.2⟩
theorem FD.put {D : Addr} {l l' : List V} (h : FD E K H v q B) (hD : H D = some (.lst l)) : FD E K (upd H D (.lst l')) v q B := ⟨h.1.put hD, h.2⟩
theorem FD.up (h : FD E K H v q B) (l : B ≤ C) : FD E K H v q C := ⟨h.1.up l, h.2⟩
theorem FD.dv {E' : Int} (h : FD E K H v q B) (d : E ∣ E') : FD E' K H v q B := ⟨h.1, h.2.up d⟩
theorem FD.bt (h : FD E K H v q B) : Bt q B := h.1.bt
theorem FD.small {n d : Int} (f : FrB K H v n d B) (h : d ∣ E) : FD E K H v (toR (n, d)) B := ⟨FR.of' f, by
  have e : ((toR (n, d)).den : Int) = d := congrArg Prod.snd (ofR_toR (f := (n, d)) ⟨f.d0, f.g⟩)
  show ((toR (n, d)).den : Int) ∣ E
  rw [e]
  exact h⟩
end
theorem fold_dv {E : Int} : ∀ {qs : List Rat} {s : Rat}, DvQ E s → (∀ q ∈ qs, DvQ E q) → DvQ E (qs.foldl (· + ·) s)
  | [], _, h, _ => h
  | q :: qs, s, h, k => fold_dv (qs := qs) (h.add (k q List.mem_cons_self)) fun x hx => k x (List.mem_cons_of_mem _ hx)
/-- a list of n fractions of B bits over E, at none of the places bad -/
def VecD (E : Int) (K : PySem.W.Frag) (H : Hp) (B n : Nat) (bad : List Addr) (v : V) : Prop := ∃ p zs, v = .ref p ∧ p ∉ bad ∧ H p = some (.lst zs) ∧ zs.length = n ∧ ∀ z ∈ zs, ∃ q, FD E K H z q B
section
variable {E : Int} {K : PySem.W.Frag} {H H' : Hp} {B n : Nat} {bad : List Addr} {v : V}
theorem VecD.same (h : VecD E K H B n bad v) (s : Same H H') : VecD E K H' B n bad v := by
  obtain ⟨p, zs, e, nb, hp, l, f⟩ := h
  exact ⟨p, zs, e, nb, s _ _ hp, l, fun z hz => by obtain ⟨q, g⟩ := f z hz; exact ⟨q, g.same s⟩⟩
theorem VecD.kp {r : Addr} (h : VecD E K H B n bad v) (R : Rg H r) (k : Kp r H H') (m : r ∈ bad) : VecD E K H' B n bad v := by
  obtain ⟨p, zs, e, nb, hp, l, f⟩ := h
  exact ⟨p, zs, e, nb, k.1 _ _ (fun z => nb (z ▸ m)) hp, l, fun z hz => by obtain ⟨q, g⟩ := f z hz; exact ⟨q, g.kp R k⟩⟩
theorem VecD.put {D : Addr} {l l' : List V} (h : VecD E K H B n bad v) (hD : H D = some (.lst l)) (m : D ∈ bad) : VecD E K (upd H D (.lst l')) B n bad v := by
  obtain ⟨p, zs, e, nb, hp, l, f⟩ := h
  exact ⟨p, zs, e, nb, by rw [upd_ne (show p ≠ D from fun z => nb (by rw [z]; exact m))]; exact hp, l, fun z hz => by obtain ⟨q, g⟩ := f z hz; exact ⟨q, g.put hD⟩⟩
theorem VecD.sub {bad' : List Addr} (h : VecD E K H B n bad v) (s : ∀ x ∈ bad', x ∈ bad) : VecD E K H B n bad' v := by
  obtain ⟨p, zs, e, nb, hp, l, f⟩ := h
  exact ⟨p, zs, e, fun z => nb (s _ z), hp, l, f⟩
theorem VecD.up {C : Nat} (h : VecD E K H B n bad v) (l : B ≤ C) : VecD E K H C n bad v := by
  obtain ⟨p, zs, e, nb, hp, l', f⟩ := h
  exact ⟨p, zs, e, nb, hp, l', fun z hz => by obtain ⟨q, g⟩ := f z hz; exact ⟨q, g.up l⟩⟩
end
/-- fractions over E, whichever -/
def FOd (E : Int) (K : PySem.W.Frag) (H : Hp) (B : Nat) (xs : List V) : Prop := ∀ z ∈ xs, ∃ q, FD E K H z q B
theorem FOd.same {E : Int} {K : PySem.W.Frag} {H H' : Hp} {B : Nat} {xs : List V} (h : FOd E K H B xs) (s : Same H H') : FOd E K H' B xs := fun z hz => by obtain ⟨q, g⟩ := h z hz; exact ⟨q, g.same s⟩
theorem FOd.kp {E : Int} {K : PySem.W.Frag} {H H' : Hp} {r : Addr} {B : Nat} {xs : List V} (h : FOd E K H B xs) (R : Rg H r) (k : Kp r H H') : FOd E K H' B xs := fun z hz => by obtain ⟨q, g⟩ := h z hz; exact ⟨q, g.kp R k⟩
theorem FOd.put {E : Int} {K : PySem.W.Frag} {H : Hp} {D : Addr} {B : Nat} {l l' xs : List V} (h : FOd E K H B xs) (hD : H D = some (.lst l)) : FOd E K (upd H D (.lst l')) B xs := fun z hz => by obtain ⟨q, g⟩ := h z hz; exact ⟨q, g.put hD⟩
theorem FOd.nil {E : Int} {K : PySem.W.Frag} {H : Hp} {B : Nat} : FOd E K H B [] := fun z hz => by cases hz
theorem FOd.snoc {E : Int} {K : PySem.W.Frag} {H : Hp} {B : Nat} {xs : List V} {y : V} {q : Rat} (h : FOd E K H B xs) (g : FD E K H y q B) : FOd E K H B (xs ++ [y]) := fun z hz => by
  rcases List.mem_append.mp hz with h' | h'
  · exact h z h'
  · rw [List.mem_singleton.mp h']; exact ⟨q, g⟩
theorem VecD.dv {E E' : Int} {K : PySem.W.Frag} {H : Hp} {B n : Nat} {bad : List Addr} {v : V} (h : VecD E K H B n bad v) (d : E ∣ E') : VecD E' K H B n bad v := by
  obtain ⟨p, zs, e, nb, hp, l, f⟩ := h
  exact ⟨p, zs, e, nb, hp, l, fun z hz => by obtain ⟨q, g⟩ := f z hz; exact ⟨q, g.dv d⟩⟩
/-! ### sums -/
theorem part_bt {C : Nat} {qs : List Rat} (h : ∀ q ∈ qs, Bt q C) : ∀ i, i ≤ qs.length → Bt ((qs.take i).foldl (· + ·) 0) (1 + i * (C + 1))
  | 0, _ => by
    rw [Nat.zero_mul]
    exact bt0 (B := 0)
  | i + 1, hi => by
    have hq : qs[i]? = some (qs[i]'hi) := List.getElem?_eq_getElem _
    rw [sum_more hq]
    exact ((part_bt h i (by omega)).add (h _ (List.getElem_mem _))).up (by rw [Nat.add_mul (n := i)]; omega)
theorem sum_bt {E : Int} {A M L : Nat} {qs : List Rat} (E0 : 0 < E) (EB : E.natAbs < 2 ^ A) (l : qs.length ≤ 2 ^ L) (h : ∀ q ∈ qs, Num E M q) (i : Nat) : Bt ((qs.take i).foldl (· + ·) 0) (M + L + A) := by
  have z := num_sum (E := E) (M := M) (qs := qs.take i) 0 0 DvQ.zero ⟨by show -((0 : Rat) * _) ≤ 0; rw [Rat.zero_mul]; decide +kernel, by show (0 : Rat) ≤ 0 * _; rw [Rat.zero_mul]; exact Rat.le_refl⟩ fun q hq => h q (List.mem_of_mem_take hq)
  refine num_bd E0 EB ⟨z.1, z.2.up ?_⟩
  rw [Nat.zero_add, Nat.pow_add, Rat.natCast_mul, Rat.mul_comm ((2 ^ M : Nat) : Rat)]
  refine Rat.mul_le_mul_of_nonneg_right ?_ Rat.natCast_nonneg
  exact Rat.natCast_le_natCast.mpr (by rw [List.length_take]; omega)
theorem fold_sum : ∀ {qs : List Rat} {s : Rat}, qs.foldl (· + ·) s = s + qs.sum
  | [], s => by rw [List.foldl_nil, List.sum_nil]; grind
  | q :: qs, s => by rw [List.foldl_cons, fold_sum, List.sum_cons]; grind
theorem bt_btw {q : Rat} {B : Nat} (h : Bt q B) : Btw ((2 ^ B : Nat) : Rat) q := by
  have dp : (0 : Int) < (q.den : Int) := by have := q.den_pos; omega
  have p := ipos dp
  have e := mul_den q
  have nB : q.num.natAbs < 2 ^ B := h.1
  have d1 : (1 : Rat) ≤ ((q.den : Int) : Rat) := by
    have : ((1 : Int) : Rat) ≤ ((q.den : Int) : Rat) := Rat.intCast_le_intCast.mpr (by omega)
    exact this
  have u : (q.num : Rat) ≤ ((2 ^ B : Nat) : Rat) := by
    rw [← Rat.intCast_natCast]
    exact Rat.intCast_le_intCast.mpr (by omega)
  have l : -((2 ^ B : Nat) : Rat) ≤ (q.num : Rat) := by
    rw [← Rat.intCast_natCast, ← Rat.intCast_neg]
    exact Rat.intCast_le_intCast.mpr (by omega)
  have z0 : (0 : Rat) ≤ ((2 ^ B : Nat) : Rat) := Rat.natCast_nonneg
  generalize ((2 ^ B : Nat) : Rat) = m at *
  generalize ((q.den : Int) : Rat) = d at *
  rw [← e] at u l
  constructor
  · refine Classical.byContradiction fun n => ?_
    have n' : q < -m := by grind
    have k := Rat.mul_lt_mul_of_pos_right n' p
    have k2 := Rat.mul_le_mul_of_nonneg_left d1 z0
    grind
  · refine Classical.byContradiction fun n => ?_
    have n' : m < q := by grind
    have k := Rat.mul_lt_mul_of_pos_right n' p
    have k2 := Rat.mul_le_mul_of_nonneg_left d1 z0
    grind
theorem Btw.mul {A B x y : Rat} (A0 : 0 ≤ A) (h : Btw A x) (k : Btw B y) : Btw (A * B) (x * y) := by
  have B0 : 0 ≤ B := by have := k.1; have := k.2; grind
  have key : ∀ {x : Rat}, 0 ≤ x → x ≤ A → Btw (A * B) (x * y) := fun {x} x0 xA => by
    have a := Rat.mul_le_mul_of_nonneg_left k.2 x0
    have b := Rat.mul_le_mul_of_nonneg_left k.1 x0
    have c := Rat.mul_le_mul_of_nonneg_right xA B0
    exact ⟨by grind, by grind⟩
  by_cases g : 0 ≤ x
  · exact key g h.2
  · have z := key (x := -x) (by grind) (by have := h.1; grind)
    exact ⟨by have := z.2; grind, by have := z.1; grind⟩
theorem num_mul {E F : Int} {A B : Nat} {x y : Rat} (hx : DvQ E x) (hy : DvQ F y) (bx : Bt x A) (bY : Bt y B) : Num (E * F) (A + B) (x * y) := ⟨hx.mul hy, by
  rw [Nat.pow_add, Rat.natCast_mul]
  exact Btw.mul Rat.natCast_nonneg (bt_btw bx) (bt_btw bY)⟩
/-! ### data -/
def qd (q : Rat) : PyData := .tuple [.int (ofR q).1, .int (ofR q).2]
theorem qd_inj {x y : Rat} (h : qd x = qd y) : x = y := by
  unfold qd at h
  have e1 : (ofR x).1 = (ofR y).1 := by injection h with h; injection h with a b; injection a
  have e2 : (ofR x).2 = (ofR y).2 := by injection h with h; injection h with a b; injection b with a b; injection a
  rw [← toR_ofR x, ← toR_ofR y, show ofR x = ofR y from Prod.ext e1 e2]
theorem qds_inj : ∀ {xs ys : List Rat}, xs.map qd = ys.map qd → xs = ys
  | [], [], _ => rfl
  | [], _ :: _, h => by cases h
  | _ :: _, [], h => by cases h
  | x :: xs, y :: ys, h => by
    rw [List.map_cons, List.map_cons] at h
    injection h with a b
    rw [qd_inj a, qds_inj b]
theorem FR.dat {K : PySem.W.Frag} {H : Hp} {v : V} {q : Rat} {B n : Nat} (h : FR K H v q B) : DaT.At K H (n + 1) v (qd q) := by
  obtain ⟨p, rfl, hp⟩ := h.fr
  exact DaT.At.tup hp rfl (DaT.pr_cons DaT.At.int (DaT.pr_cons DaT.At.int DaT.pr_nil))
theorem FRs.dats {K : PySem.W.Frag} {H : Hp} {xs : List V} {qs : List Rat} {B n : Nat} (h : FRs K H xs qs B) : xs.length = (qs.map qd).length ∧ ∀ (i : Nat) x e, xs[i]? = some x → (qs.map qd)[i]? = some e → DaT.At K H (n + 1) x e := ⟨by rw [List.length_map]; exact h.len, fun i x e a b => by
  rw [List.getElem?_map] at b
  cases c : qs[i]? with
  | none => rw [c] at b; cases b
  | some q =>
    rw [c] at b
    cases b
    exact (h.at a c).dat⟩
theorem nb_qds : ∀ {qs : List Rat}, DaT.nbs (qs.map qd) = true
  | [] => rfl
  | q :: qs => by
    show (DaT.nb (qd q) && DaT.nbs (qs.map qd)) = true
    rw [nb_qds, Bool.and_true]
    rfl
theorem eqv_qs {xs ys : List Rat} : PyData.eqv (.list (xs.map qd)) (.list (ys.map qd)) = decide (xs = ys) := by
  have k := DaT.eqv_iff (d := .list (xs.map qd)) (e := .list (ys.map qd)) nb_qds nb_qds
  by_cases h : xs = ys
  · rw [decide_eq_true h, k, h]
  · rw [decide_eq_false h]
    refine Bool.eq_false_iff.mpr fun z => h ?_
    have z' := k.mp z
    injection z' with z'
    exact qds_inj z'
theorem eqv_q {x y : Rat} : PyData.eqv (qd x) (qd y) = decide (x = y) := by
  have k := DaT.eqv_iff (d := qd x) (e := qd y) rfl rfl
  by_cases h : x = y
  · rw [decide_eq_true h, k, h]
  · rw [decide_eq_false h]
    exact Bool.eq_false_iff.mpr fun z => h (qd_inj (k.mp z))
/-! ### the least common multiple of all denominators, and what is made of it -/
def lcmQ : List Rat → Int
  | [] => 1
  | q :: qs => (Int.lcm (q.den : Int) (lcmQ qs) : Int)
theorem lcmQ_dvd : ∀ {qs : List Rat} {q : Rat}, q ∈ qs → (q.den : Int) ∣ lcmQ qs
  | x :: qs, q, h => by
    rcases List.mem_cons.mp h with rfl | h
    · exact Int.dvd_lcm_left _ _
    · exact Int.dvd_trans (lcmQ_dvd h) (Int.dvd_lcm_right _ _)
theorem lcmQ_least : ∀ {qs : List Rat} {c : Int}, (∀ q ∈ qs, (q.den : Int) ∣ c) → lcmQ qs ∣ c
  | [], c, _ => Int.one_dvd c
  | x :: qs, c, h => Int.coe_lcm_dvd (h x List.mem_cons_self) (lcmQ_least fun q hq => h q (List.mem_cons_of_mem _ hq))
theorem lcmQ_nonneg : ∀ {qs : List Rat}, 0 ≤ lcmQ qs
  | [] => by decide
  | _ :: _ => Int.natCast_nonneg _
theorem lcmQ_is {qs : List Rat} {m : Int} (m0 : 0 < m) (h : ∀ q ∈ qs, (q.den : Int) ∣ m) (l : ∀ c, (∀ q ∈ qs, (q.den : Int) ∣ c) → m ∣ c) : m = lcmQ qs :=
  Int.dvd_antisymm (by omega) lcmQ_nonneg (l _ fun q hq => lcmQ_dvd hq) (lcmQ_least h)
def intsQ (qs : List Rat) : List Int := qs.map fun q => q.num * (lcmQ qs / (q.den : Int))
/-- what solve_linear answers -/
def primR (rq : List (List Rat)) (ts : List Rat) : List (List Int) := ((rq.zip ts).map fun p => p.1 ++ [p.2]).map intsQ
def dualR (rq : List (List Rat)) (ts : List Rat) (w : Nat) : List (List Int) := ((List.range w).map fun j => colQ rq j ++ [0]).map intsQ ++ [intsQ (ts ++ [1])]
def solveQ (rq : List (List Rat)) (ts : List Rat) (w : Nat) : Str × List Rat :=
  if (Bar.elimN (primR rq ts) w).rest.all (fun y => decide (vec y w = 0)) = true then ("solution", Bar.valN (Bar.elimN (primR rq ts) w) w (Bar.elimN (primR rq ts) w).cols.length)
  else ("certificate", Bar.valN (Bar.elimN (dualR rq ts w) rq.length) rq.length (Bar.elimN (dualR rq ts w) rq.length).cols.length)
theorem tupleK {X : Cx} {K : PySem.W.Frag} (h : X.K = K) : CallR X (.type "tuple") (fun xs H Q => ∃ p ys, xs = [.ref p] ∧ ((SqL K H p ys ∧ ∀ l, H l = none → Q (.ref l) (upd H l (.tup ys))) ∨ SqT K H p ys ∧ Q (.ref p) H)) := by subst h; exact call_tuple_of
theorem vec_pick {E : Int} {K : PySem.W.Frag} {H : Hp} {B w : Nat} {bad : List Addr} : ∀ {xs : List V}, (∀ x ∈ xs, VecD E K H B w bad x) → ∃ (ls : List Addr) (rv : List (List V)) (rq : List (List Rat)), xs = ls.map V.ref ∧ ls.length = rv.length ∧ rq.length = rv.length ∧ (∀ l ∈ ls, l ∉ bad) ∧ (∀ (k : Nat) l zs, ls[k]? = some l → rv[k]? = some zs → H l = some (.lst zs)) ∧ (∀ zs ∈ rv, zs.length = w) ∧ (∀ (k : Nat) zs qs, rv[k]? = some zs → rq[k]? = some qs → FRs K H zs qs B) ∧ ∀ qs ∈ rq, ∀ q ∈ qs, DvQ E q
  | [], _ => ⟨[], [], [], rfl, rfl, rfl, fun l h => by (cases h), fun k l zs h => by (cases h), fun zs h => by (cases h), fun k zs qs h => by (cases h), fun qs h => by (cases h)⟩
  | x :: xs, h => by
    obtain ⟨ls, rv, rq, e, l1, l2, b, hl, wl, fr, dq⟩ := vec_pick fun y hy => h y (List.mem_cons_of_mem _ hy)
    obtain ⟨p, zs, rfl, nb, hp, zl, f⟩ := h x List.mem_cons_self
    have fz : ∃ qs, FRs K H zs qs B ∧ ∀ q ∈ qs, DvQ E q := by
      clear zl hp
      induction zs with
      | nil => exact ⟨[], FRs.nil, fun q h => by cases h⟩
      | cons z zs ih =>
        obtain ⟨qs, a, d⟩ := ih fun y hy => f y (List.mem_cons_of_mem _ hy)
        obtain ⟨q, g⟩ := f z List.mem_cons_self
        refine ⟨q :: qs, FRs.cons g.1 a, fun y hy => ?_⟩
        rcases List.mem_cons.mp hy with rfl | h
        · exact g.2
        · exact d y h
    obtain ⟨qs, a, d⟩ := fz
    refine ⟨p :: ls, zs :: rv, qs :: rq, by rw [List.map_cons, e], by simpa using l1, by simpa using l2, fun l hm => ?_, fun k l us h1 h2 => ?_, fun us hm => ?_, fun k us rs h1 h2 => ?_, fun rs hm => ?_⟩
    · rcases List.mem_cons.mp hm with rfl | h'
      · exact nb
      · exact b l h'
    · cases k with
      | zero => cases h1; cases h2; exact hp
      | succ k => exact hl k l us h1 h2
    · rcases List.mem_cons.mp hm with rfl | h'
      · exact zl
      · exact wl us h'
    · cases k with
      | zero => cases h1; cases h2; exact a
      | succ k => exact fr k us rs h1 h2
    · rcases List.mem_cons.mp hm with rfl | h'
      · exact d
      · exact dq rs h'
theorem fod_pick {E : Int} {K : PySem.W.Frag} {H : Hp} {B : Nat} : ∀ {xs : List V}, FOd E K H B xs → ∃ qs, FRs K H xs qs B ∧ ∀ q ∈ qs, DvQ E q
  | [], _ => ⟨[], FRs.nil, fun q h => by cases h⟩
  | z :: zs, f => by
    obtain ⟨qs, a, d⟩ := fod_pick (xs := zs) fun y hy => f y (List.mem_cons_of_mem _ hy)
    obtain ⟨q, g⟩ := f z List.mem_cons_self
    refine ⟨q :: qs, FRs.cons g.1 a, fun y hy => ?_⟩
    rcases List.mem_cons.mp hy with rfl | h
    · exact g.2
    · exact d y h
/-- the equations while the law asks -/
structure S20 (K : PySem.W.Frag) (H : Hp) (r rl tl : Addr) (ls : List Addr) (rv : List (List V)) (ys : List V) (rq : List (List Rat)) (ts : List Rat) (w : Nat) : Prop where
  R : Rg H r
  rr : rl ≠ r
  tr : tl ≠ r
  hr : H rl = some (.lst (ls.map V.ref))
  ht : H tl = some (.lst ys)
  lr : ∀ l ∈ ls, l ≠ r
  hl : ∀ (k : Nat) l zs, ls[k]? = some l → rv[k]? = some zs → H l = some (.lst zs)
  ll : ls.length = rv.length
  yl : ys.length = rv.length
  ql : rq.length = rv.length
  r1 : 1 ≤ rv.length
  r5 : rv.length ≤ 5
  w1 : 1 ≤ w
  w5 : w ≤ 5
  wl : ∀ zs ∈ rv, zs.length = w
  fr : ∀ (k : Nat) zs qs, rv[k]? = some zs → rq[k]? = some qs → FRs K H zs qs 130
  dq : ∀ qs ∈ rq, ∀ q ∈ qs, DvQ 1728 q
  ft : FRs K H ys ts 130
  dt : ∀ q ∈ ts, DvQ 1728 q
theorem S20.kp {K : PySem.W.Frag} {H H' : Hp} {r rl tl : Addr} {ls : List Addr} {rv : List (List V)} {ys : List V} {rq : List (List Rat)} {ts : List Rat} {w : Nat} (h : S20 K H r rl tl ls rv ys rq ts w) (k : Kp r H H') (R : Rg H' r) : S20 K H' r rl tl ls rv ys rq ts w :=
  { h with
    R := R
    hr := k.1 _ _ h.rr h.hr
    ht := k.1 _ _ h.tr h.ht
    hl := fun i l zs a b => k.1 _ _ (h.lr l (List.mem_of_getElem? a)) (h.hl i l zs a b)
    fr := fun i zs qs a b => (h.fr i zs qs a b).mono fun _ _ z => FR.kp z h.R k
    ft := h.ft.mono fun _ _ z => FR.kp z h.R k }
theorem S20.same {K : PySem.W.Frag} {H H' : Hp} {r rl tl : Addr} {ls : List Addr} {rv : List (List V)} {ys : List V} {rq : List (List Rat)} {ts : List Rat} {w : Nat} (h : S20 K H r rl tl ls rv ys rq ts w) (s : Same H H') : S20 K H' r rl tl ls rv ys rq ts w := h.kp (Kp.of s) (h.R.same s)
theorem S20.eqs {K : PySem.W.Frag} {H : Hp} {r rl tl : Addr} {ls : List Addr} {rv : List (List V)} {ys : List V} {rq : List (List Rat)} {ts : List Rat} {w : Nat} (h : S20 K H r rl tl ls rv ys rq ts w) : EqsAt false false false K H rl tl rv ys rq ts w 130 11 1728 where
  rows := ⟨ls, SqL.of h.hr, h.ll, fun k l zs a b => SqL.of (h.hl k l zs a b)⟩
  tgt := SqL.of h.ht
  yl := h.yl
  wl := h.wl
  r0 := fun z => by have := h.r1; rw [z] at this; exact absurd this (by decide)
  rl := by have := h.r5; omega
  w9 := by have := h.w5; omega
  ql := h.ql
  fr := h.fr
  ft := h.ft
  B0 := by decide
  B8 := by decide
  P0 := by decide
  pr := h.dq
  pt := h.dt
  pB := by decide
  G8 := by decide
theorem FRs.take {K : PySem.W.Frag} {H : Hp} {xs : List V} {qs : List Rat} {B : Nat} (h : FRs K H xs qs B) (n : Nat) : FRs K H (xs.take n) (qs.take n) B := by
  refine ⟨by rw [List.length_take, List.length_map, List.length_take, h.len], fun i x f a b => ?_⟩
  rw [List.getElem?_map] at b
  rw [List.getElem?_take] at a b
  split at a
  · rename_i hi
    rw [if_pos hi] at b
    exact h.2 i x f a (by rw [List.getElem?_map]; exact b)
  · cases a
theorem FRs.drop {K : PySem.W.Frag} {H : Hp} {xs : List V} {qs : List Rat} {B : Nat} (h : FRs K H xs qs B) (n : Nat) : FRs K H (xs.drop n) (qs.drop n) B := by
  refine ⟨by rw [List.length_drop, List.length_map, List.length_drop, h.len], fun i x f a b => ?_⟩
  rw [List.getElem?_map] at b
  rw [List.getElem?_drop] at a b
  exact h.2 _ x f a (by rw [List.getElem?_map]; exact b)
theorem cut_to (xs : List V) (q : Nat) : cutV xs none (some (q : Int)) = xs.take q := by
  unfold cutV
  rw [HT.sIx_none, show HT.sIx xs.length xs.length (some (q : Int)) = min q xs.length from HT.sIx_nat xs.length xs.length q, List.drop_zero, Nat.sub_zero, List.take_eq_take_min (i := q)]
theorem cut_from (xs : List V) (q : Nat) : cutV xs (some (q : Int)) none = xs.drop q := by
  unfold cutV
  rw [HT.sIx_none, show HT.sIx xs.length 0 (some (q : Int)) = min q xs.length from HT.sIx_nat xs.length 0 q, List.take_of_length_le (by rw [List.length_drop]; omega)]
  by_cases h : q ≤ xs.length
  · rw [Nat.min_eq_left h]
  · rw [Nat.min_eq_right (by omega), List.drop_of_length_le (Nat.le_refl _), List.drop_of_length_le (by omega)]
theorem cut_mid (xs : List V) (p : Nat) : ∃ a b, b ≤ 1 ∧ cutV xs (some (p : Int)) (some ((p + 1 : Nat) : Int)) = (xs.drop a).take b := by
  refine ⟨min p xs.length, min (p + 1) xs.length - min p xs.length, by omega, ?_⟩
  unfold cutV
  rw [show HT.sIx xs.length 0 (some (p : Int)) = min p xs.length from HT.sIx_nat xs.length 0 p, show HT.sIx xs.length xs.length (some ((p + 1 : Nat) : Int)) = min (p + 1) xs.length from HT.sIx_nat xs.length xs.length (p + 1)]
theorem eqs0 {K : PySem.W.Frag} {H : Hp} {R y : Addr} {ls : List Addr} {ys : List V} {ts : List Rat} (hR : H R = some (.lst (ls.map V.ref))) (hl : ∀ l ∈ ls, H l = some (.lst [])) (hy : H y = some (.lst ys)) (l1 : ys.length = ls.length) (l9 : ls.length ≤ 900) (ft : FRs K H ys ts 2) (dt : ∀ q ∈ ts, DvQ 1 q) : EqsAt false false false K H R y (List.replicate ls.length []) ys (List.replicate ls.length []) ts 0 2 1 1 where
  rows := ⟨ls, SqL.of hR, List.length_replicate.symm, fun k l xs a b => by
    rw [List.getElem?_replicate] at b
    split at b
    · cases b
      exact SqL.of (hl l (List.mem_of_getElem? a))
    · cases b⟩
  tgt := SqL.of hy
  yl := by rw [l1, List.length_replicate]
  wl := fun xs h => by rw [List.eq_of_mem_replicate h]; rfl
  r0 := fun _ => rfl
  rl := by rw [List.length_replicate]; exact l9
  w9 := by decide
  ql := by rw [List.length_replicate, List.length_replicate]
  fr := fun k xs qs a b => by
    rw [List.getElem?_replicate] at a b
    split at a
    · rename_i h
      rw [if_pos h] at b
      cases a
      cases b
      exact FRs.nil
    · cases a
  ft := ft
  B0 := by decide
  B8 := by decide
  P0 := by decide
  pr := fun qs h q hq => by rw [List.eq_of_mem_replicate h] at hq; cases hq
  pt := dt
  pB := by decide
  G8 := by decide
theorem one_fr {K : PySem.W.Frag} {H : Hp} {p : Addr} {n : Int} (h : n.natAbs < 4) (hp : SqT K H p [.int n, .int 1]) : FRs K H [.ref p] [(n : Rat)] 2 := by
  have e : ofR (n : Rat) = (n, 1) := rfl
  exact FRs.cons (FR.mk (by rw [e]; exact ⟨p, rfl, hp⟩) ⟨by rw [e]; exact h, by rw [e]; show (1 : Int).natAbs < 2 ^ 2; decide⟩) FRs.nil
theorem one_dv {n : Int} : ∀ q ∈ [(n : Rat)], DvQ 1 q := fun q h => by
  rw [List.mem_singleton.mp h]
  exact Int.dvd_refl 1

def topS (i : Nat) : Stmt := PySem.Challenge.pw_gaithold_k19_whole_linear_equations.main.body.getD i (.Pass ⟨0, 0, 0, 0⟩)
abbrev s_p_greatest_divisor : Stmt := topS 6
theorem sc_p_greatest_divisor : FnScope ["one", "other"] ["one", "other"] (defScope s_p_greatest_divisor) := ⟨rfl, rfl, rfl, by decide +kernel, rfl, by decide +kernel, by decide +kernel⟩
abbrev s_p_least_multiple : Stmt := topS 7
theorem sc_p_least_multiple : FnScope ["one", "other"] ["one", "other"] (defScope s_p_least_multiple) := ⟨rfl, rfl, rfl, by decide +kernel, rfl, by decide +kernel, by decide +kernel⟩
abbrev s_p_common_denominator : Stmt := topS 8
theorem sc_p_common_denominator : FnScope ["row", "result", "num", "den"] ["row"] (defScope s_p_common_denominator) := ⟨rfl, rfl, rfl, by decide +kernel, rfl, by decide +kernel, by decide +kernel⟩
abbrev s_p_fraction : Stmt := topS 9
theorem sc_p_fraction : FnScope ["num", "den", "divisor"] ["num", "den"] (defScope s_p_fraction) := ⟨rfl, rfl, rfl, by decide +kernel, rfl, by decide +kernel, by decide +kernel⟩
abbrev s_p_check_shape : Stmt := topS 11
theorem sc_p_check_shape : FnScope ["rows", "targets", "at", "row"] ["rows", "targets"] (defScope s_p_check_shape) := ⟨rfl, rfl, rfl, by decide +kernel, rfl, by decide +kernel, by decide +kernel⟩
abbrev s_p_columns_of : Stmt := topS 12
theorem sc_p_columns_of : FnScope ["rows", "column"] ["rows"] (defScope s_p_columns_of) := ⟨rfl, rfl, rfl, by decide +kernel, rfl, by decide +kernel, by decide +kernel⟩
abbrev s_p_as_integers : Stmt := topS 13
theorem sc_p_as_integers : FnScope ["row", "scale", "num", "den"] ["row"] (defScope s_p_as_integers) := ⟨rfl, rfl, rfl, by decide +kernel, rfl, by decide +kernel, by decide +kernel⟩
abbrev s_p_clear_column : Stmt := topS 14
theorem sc_p_clear_column : FnScope ["row", "pivot_row", "column", "last_pivot", "factor", "pivot", "one", "other"] ["row", "pivot_row", "column", "last_pivot"] (defScope s_p_clear_column) := ⟨rfl, rfl, rfl, by decide +kernel, rfl, by decide +kernel, by decide +kernel⟩
abbrev s_p_first_nonzero : Stmt := topS 15
theorem sc_p_first_nonzero : FnScope ["row", "at", "one"] ["row"] (defScope s_p_first_nonzero) := ⟨rfl, rfl, rfl, by decide +kernel, rfl, by decide +kernel, by decide +kernel⟩
abbrev s_p_eliminate : Stmt := topS 16
theorem sc_p_eliminate : FnScope ["rows", "width", "columns", "done", "rest", "last_pivot", "column", "at", "pivot_row", "row"] ["rows", "width"] (defScope s_p_eliminate) := ⟨rfl, rfl, rfl, by decide +kernel, rfl, by decide +kernel, by decide +kernel⟩
abbrev s_p_solution_of : Stmt := topS 17
theorem sc_p_solution_of : FnScope ["rows", "width", "columns", "done", "rest", "values", "column", "row"] ["rows", "width"] (defScope s_p_solution_of) := ⟨rfl, rfl, rfl, by decide +kernel, rfl, by decide +kernel, by decide +kernel⟩
abbrev s_p_solve_linear : Stmt := topS 18
theorem sc_p_solve_linear : FnScope ["rows", "targets", "columns", "values", "cancelled", "row", "target", "column"] ["rows", "targets"] (defScope s_p_solve_linear) := ⟨rfl, rfl, rfl, by decide +kernel, rfl, by decide +kernel, by decide +kernel⟩
abbrev s_l_source : Stmt := topS 20
theorem sc_l_source : FnScope ["_law_script", "_law_knot", "_law_cell"] ["_law_script"] (defScope s_l_source) := ⟨rfl, rfl, rfl, by decide +kernel, rfl, by decide +kernel, by decide +kernel⟩
abbrev s_l_draw : Stmt := topS 21
theorem sc_l_draw : FnScope ["_law_rng", "_law_quantity", "_law_cell", "_law_got", "_law_seed"] ["_law_rng", "_law_quantity"] (defScope s_l_draw) := ⟨rfl, rfl, rfl, by decide +kernel, rfl, by decide +kernel, by decide +kernel⟩
abbrev s_l_choice : Stmt := topS 22
theorem sc_l_choice : FnScope ["_law_rng", "_law_some"] ["_law_rng", "_law_some"] (defScope s_l_choice) := ⟨rfl, rfl, rfl, by decide +kernel, rfl, by decide +kernel, by decide +kernel⟩
abbrev s_l_equal : Stmt := topS 23
theorem sc_l_equal : FnScope ["_law_result", "_law_expected", "_law_one", "_law_other"] ["_law_result", "_law_expected"] (defScope s_l_equal) := ⟨rfl, rfl, rfl, by decide +kernel, rfl, by decide +kernel, by decide +kernel⟩
abbrev s_l_reduce : Stmt := topS 24
theorem sc_l_reduce : FnScope ["_law_num", "_law_den", "_law_one", "_law_other", "_law_sign"] ["_law_num", "_law_den"] (defScope s_l_reduce) := ⟨rfl, rfl, rfl, by decide +kernel, rfl, by decide +kernel, by decide +kernel⟩
abbrev s_l_add : Stmt := topS 25
theorem sc_l_add : FnScope ["_law_one", "_law_other"] ["_law_one", "_law_other"] (defScope s_l_add) := ⟨rfl, rfl, rfl, by decide +kernel, rfl, by decide +kernel, by decide +kernel⟩
abbrev s_l_multiply : Stmt := topS 26
theorem sc_l_multiply : FnScope ["_law_one", "_law_other"] ["_law_one", "_law_other"] (defScope s_l_multiply) := ⟨rfl, rfl, rfl, by decide +kernel, rfl, by decide +kernel, by decide +kernel⟩
abbrev s_l_sum : Stmt := topS 27
theorem sc_l_sum : FnScope ["_law_some", "_law_result", "_law_one"] ["_law_some"] (defScope s_l_sum) := ⟨rfl, rfl, rfl, by decide +kernel, rfl, by decide +kernel, by decide +kernel⟩
abbrev s_l_small : Stmt := topS 28
theorem sc_l_small : FnScope ["_law_rng"] ["_law_rng"] (defScope s_l_small) := ⟨rfl, rfl, rfl, by decide +kernel, rfl, by decide +kernel, by decide +kernel⟩
abbrev s_l_linear_case : Stmt := topS 29
theorem sc_l_linear_case : FnScope ["_law_rng", "_law_quantity", "_law_wide", "_law_my_rows", "_law_amount", "_law_met", "_law_my_targets", "_law_j", "_law_k", "_law_x", "_law_y", "_law_row"] ["_law_rng"] (defScope s_l_linear_case) := ⟨rfl, rfl, rfl, by decide +kernel, rfl, by decide +kernel, by decide +kernel⟩
abbrev s_l_check_solution : Stmt := topS 30
theorem sc_l_check_solution : FnScope ["_law_my_rows", "_law_my_targets", "_law_answer", "_law_kind", "_law_some", "_law_k", "_law_row", "_law_x", "_law_y"] ["_law_my_rows", "_law_my_targets", "_law_answer"] (defScope s_l_check_solution) := ⟨rfl, rfl, rfl, by decide +kernel, rfl, by decide +kernel, by decide +kernel⟩
abbrev s_p_law : Stmt := topS 31
theorem sc_p_law : FnScope ["_law_script", "_law_rng", "_law_turn", "_law_my_rows", "_law_my_targets", "_law_argument", "_law_answer", "_law_text", "_law_twice", "_law_late", "_law_found", "_law_row", "_law_x", "_law_pos", "_law_k"] ["_law_script"] (defScope s_p_law) := ⟨rfl, rfl, rfl, by decide +kernel, rfl, by decide +kernel, by decide +kernel⟩
def kg_p_solve_linear_0_targets_rows {α : Type} : List α → List α → List α
  | [], [w0, w1] => [w1, w0]
  | _, _ => []
theorem kgr_p_solve_linear_0_targets_rows : ∀ {vs : List V} {us : List Value} {zs : List V} {ws : List Value}, Vals vs us → Vals zs ws → Vals (kg_p_solve_linear_0_targets_rows vs zs) (kg_p_solve_linear_0_targets_rows us ws) := by
  intro vs us zs ws r1 r2
  cases r1 with
  | cons _ _ => first | exact .nil | (cases r2 <;> exact .nil)
  | nil =>
  cases r2 with
  | nil => exact .nil
  | cons hw0 q2_0 =>
  cases q2_0 with
  | nil => exact .nil
  | cons hw1 q2_1 =>
  cases q2_1 with
  | cons _ _ => exact .nil
  | nil =>
  exact (.cons hw1 (.cons hw0 .nil))
structure Ad where
  f_p_greatest_divisor : Addr
  fd_p_greatest_divisor : FuncData
  f_p_least_multiple : Addr
  fd_p_least_multiple : FuncData
  f_p_common_denominator : Addr
  fd_p_common_denominator : FuncData
  f_p_fraction : Addr
  fd_p_fraction : FuncData
  f_p_check_shape : Addr
  fd_p_check_shape : FuncData
  f_p_columns_of : Addr
  fd_p_columns_of : FuncData
  f_p_as_integers : Addr
  fd_p_as_integers : FuncData
  f_p_clear_column : Addr
  fd_p_clear_column : FuncData
  f_p_first_nonzero : Addr
  fd_p_first_nonzero : FuncData
  f_p_eliminate : Addr
  fd_p_eliminate : FuncData
  f_p_solution_of : Addr
  fd_p_solution_of : FuncData
  f_p_solve_linear : Addr
  fd_p_solve_linear : FuncData
  f_l_source : Addr
  fd_l_source : FuncData
  f_l_draw : Addr
  fd_l_draw : FuncData
  f_l_choice : Addr
  fd_l_choice : FuncData
  f_l_equal : Addr
  fd_l_equal : FuncData
  f_l_reduce : Addr
  fd_l_reduce : FuncData
  f_l_add : Addr
  fd_l_add : FuncData
  f_l_multiply : Addr
  fd_l_multiply : FuncData
  f_l_sum : Addr
  fd_l_sum : FuncData
  f_l_small : Addr
  fd_l_small : FuncData
  f_l_linear_case : Addr
  fd_l_linear_case : FuncData
  f_l_check_solution : Addr
  fd_l_check_solution : FuncData
  f_p_law : Addr
  fd_p_law : FuncData
  o_ZERO : Addr
structure Txt (K : PySem.W.Frag) (mg : Str → Option Value) (a : Ad) : Prop where
  g_p_greatest_divisor : mg "greatest_divisor" = some (.ref a.f_p_greatest_divisor)
  F_p_greatest_divisor : Fun K "greatest_divisor" "greatest_divisor" s_p_greatest_divisor a.f_p_greatest_divisor a.fd_p_greatest_divisor
  b_p_greatest_divisor : Binds K a.fd_p_greatest_divisor ["one", "other"] []
  g_p_least_multiple : mg "least_multiple" = some (.ref a.f_p_least_multiple)
  F_p_least_multiple : Fun K "least_multiple" "least_multiple" s_p_least_multiple a.f_p_least_multiple a.fd_p_least_multiple
  b_p_least_multiple : Binds K a.fd_p_least_multiple ["one", "other"] []
  g_p_common_denominator : mg "common_denominator" = some (.ref a.f_p_common_denominator)
  F_p_common_denominator : Fun K "common_denominator" "common_denominator" s_p_common_denominator a.f_p_common_denominator a.fd_p_common_denominator
  b_p_common_denominator : Binds K a.fd_p_common_denominator ["row"] []
  g_p_fraction : mg "fraction" = some (.ref a.f_p_fraction)
  F_p_fraction : FunD K "fraction" "fraction" (defArgs s_p_fraction) (defBody s_p_fraction) (defScope s_p_fraction) [(.int 1)] [] a.f_p_fraction a.fd_p_fraction
  b_p_fraction_2 : ∃ ds, Vals [] ds ∧ Binds K a.fd_p_fraction ["num", "den"] ds
  g_p_check_shape : mg "check_shape" = some (.ref a.f_p_check_shape)
  F_p_check_shape : Fun K "check_shape" "check_shape" s_p_check_shape a.f_p_check_shape a.fd_p_check_shape
  b_p_check_shape : Binds K a.fd_p_check_shape ["rows", "targets"] []
  g_p_columns_of : mg "columns_of" = some (.ref a.f_p_columns_of)
  F_p_columns_of : Fun K "columns_of" "columns_of" s_p_columns_of a.f_p_columns_of a.fd_p_columns_of
  b_p_columns_of : Binds K a.fd_p_columns_of ["rows"] []
  g_p_as_integers : mg "as_integers" = some (.ref a.f_p_as_integers)
  F_p_as_integers : Fun K "as_integers" "as_integers" s_p_as_integers a.f_p_as_integers a.fd_p_as_integers
  b_p_as_integers : Binds K a.fd_p_as_integers ["row"] []
  g_p_clear_column : mg "clear_column" = some (.ref a.f_p_clear_column)
  F_p_clear_column : Fun K "clear_column" "clear_column" s_p_clear_column a.f_p_clear_column a.fd_p_clear_column
  b_p_clear_column : Binds K a.fd_p_clear_column ["row", "pivot_row", "column", "last_pivot"] []
  g_p_first_nonzero : mg "first_nonzero" = some (.ref a.f_p_first_nonzero)
  F_p_first_nonzero : Fun K "first_nonzero" "first_nonzero" s_p_first_nonzero a.f_p_first_nonzero a.fd_p_first_nonzero
  b_p_first_nonzero : Binds K a.fd_p_first_nonzero ["row"] []
  g_p_eliminate : mg "eliminate" = some (.ref a.f_p_eliminate)
  F_p_eliminate : Fun K "eliminate" "eliminate" s_p_eliminate a.f_p_eliminate a.fd_p_eliminate
  b_p_eliminate : Binds K a.fd_p_eliminate ["rows", "width"] []
  g_p_solution_of : mg "solution_of" = some (.ref a.f_p_solution_of)
  F_p_solution_of : Fun K "solution_of" "solution_of" s_p_solution_of a.f_p_solution_of a.fd_p_solution_of
  b_p_solution_of : Binds K a.fd_p_solution_of ["rows", "width"] []
  g_p_solve_linear : mg "solve_linear" = some (.ref a.f_p_solve_linear)
  F_p_solve_linear : Fun K "solve_linear" "solve_linear" s_p_solve_linear a.f_p_solve_linear a.fd_p_solve_linear
  b_p_solve_linear : Binds K a.fd_p_solve_linear ["rows", "targets"] []
  g_l_source : mg "_law_source" = some (.ref a.f_l_source)
  F_l_source : Fun K "_law_source" "_law_source" s_l_source a.f_l_source a.fd_l_source
  b_l_source : Binds K a.fd_l_source ["_law_script"] []
  g_l_draw : mg "_law_draw" = some (.ref a.f_l_draw)
  F_l_draw : Fun K "_law_draw" "_law_draw" s_l_draw a.f_l_draw a.fd_l_draw
  b_l_draw : Binds K a.fd_l_draw ["_law_rng", "_law_quantity"] []
  g_l_choice : mg "_law_choice" = some (.ref a.f_l_choice)
  F_l_choice : Fun K "_law_choice" "_law_choice" s_l_choice a.f_l_choice a.fd_l_choice
  b_l_choice : Binds K a.fd_l_choice ["_law_rng", "_law_some"] []
  g_l_equal : mg "_law_equal" = some (.ref a.f_l_equal)
  F_l_equal : Fun K "_law_equal" "_law_equal" s_l_equal a.f_l_equal a.fd_l_equal
  b_l_equal : Binds K a.fd_l_equal ["_law_result", "_law_expected"] []
  g_l_reduce : mg "_law_reduce" = some (.ref a.f_l_reduce)
  F_l_reduce : Fun K "_law_reduce" "_law_reduce" s_l_reduce a.f_l_reduce a.fd_l_reduce
  b_l_reduce : Binds K a.fd_l_reduce ["_law_num", "_law_den"] []
  g_l_add : mg "_law_add" = some (.ref a.f_l_add)
  F_l_add : Fun K "_law_add" "_law_add" s_l_add a.f_l_add a.fd_l_add
  b_l_add : Binds K a.fd_l_add ["_law_one", "_law_other"] []
  g_l_multiply : mg "_law_multiply" = some (.ref a.f_l_multiply)
  F_l_multiply : Fun K "_law_multiply" "_law_multiply" s_l_multiply a.f_l_multiply a.fd_l_multiply
  b_l_multiply : Binds K a.fd_l_multiply ["_law_one", "_law_other"] []
  g_l_sum : mg "_law_sum" = some (.ref a.f_l_sum)
  F_l_sum : Fun K "_law_sum" "_law_sum" s_l_sum a.f_l_sum a.fd_l_sum
  b_l_sum : Binds K a.fd_l_sum ["_law_some"] []
  g_l_small : mg "_law_small" = some (.ref a.f_l_small)
  F_l_small : Fun K "_law_small" "_law_small" s_l_small a.f_l_small a.fd_l_small
  b_l_small : Binds K a.fd_l_small ["_law_rng"] []
  g_l_linear_case : mg "_law_linear_case" = some (.ref a.f_l_linear_case)
  F_l_linear_case : Fun K "_law_linear_case" "_law_linear_case" s_l_linear_case a.f_l_linear_case a.fd_l_linear_case
  b_l_linear_case : Binds K a.fd_l_linear_case ["_law_rng"] []
  g_l_check_solution : mg "_law_check_solution" = some (.ref a.f_l_check_solution)
  F_l_check_solution : Fun K "_law_check_solution" "_law_check_solution" s_l_check_solution a.f_l_check_solution a.fd_l_check_solution
  b_l_check_solution : Binds K a.fd_l_check_solution ["_law_my_rows", "_law_my_targets", "_law_answer"] []
  g_p_law : mg "law" = some (.ref a.f_p_law)
  F_p_law : Fun K "law" "law" s_p_law a.f_p_law a.fd_p_law
  b_p_law : Binds K a.fd_p_law ["_law_script"] []
  n_abs : mg "abs" = none
  n_enumerate : mg "enumerate" = none
  n_len : mg "len" = none
  n_list : mg "list" = none
  n_zip : mg "zip" = none
  n_range : mg "range" = none
  n_any : mg "any" = none
  n_isinstance : mg "isinstance" = none
  n_tuple : mg "tuple" = none
  n_all : mg "all" = none
  n_bool : mg "bool" = none
  n_int : mg "int" = none
  n_str : mg "str" = none
  n_repr : mg "repr" = none
  c_ZERO : mg "ZERO" = some (.ref a.o_ZERO)
  t_ZERO : ∀ H, SqT K H a.o_ZERO [(.int 0), (.int 1)]
  kb_p_solve_linear_0_targets_rows : ∃ g, KBn K a.fd_p_solve_linear ["rows", "targets"] 0 ["targets", "rows"] g kg_p_solve_linear_0_targets_rows

section
variable {P : Program} {w : World} {K : PySem.W.Frag} {mg : Str → Option Value} {base : Heap} {a : Ad}
def sp_p_greatest_divisor (_ : PySem.W.Frag) : Sp := fun vs H Q _ => ∃ (n d : Int), vs = [.int n, .int d] ∧ Q (.int (Int.gcd n d : Int)) H

theorem ok_p_greatest_divisor (T : Txt K mg a) : FnOk P w K mg base CX0 1 a.f_p_greatest_divisor a.fd_p_greatest_divisor ["one", "other"] (sp_p_greatest_divisor K) := by
  refine T.F_p_greatest_divisor.ok sc_p_greatest_divisor (fun vs H Q E h => ?_) (fun cdv A outer s H vs Q E hr h => ?_)
  · obtain ⟨n, d, rfl, _⟩ := h
    rfl
  · obtain ⟨n, d, rfl, w⟩ := h
    refine ⟨_, (pss_cons (ps_while PassesOwn.never (pt_cmpR op_ne (pv 1) pe_int (nomark _)) (pss_one (ps_par (i := 0) (j := 1) (by rfl) sc_p_greatest_divisor.nd rfl rfl (by decide) rfl rfl (pa_cons (pv 1) (pa_cons (pe_op op_modN (pv 0) (pv 1)) pa_nil)) (by rfl))))
          (pss_one (ps_ret (pe_callB call_abs (by rfl) T.n_abs (by decide +kernel) (pa_cons (pv 0) pa_nil))))), ?_⟩
    refine ⟨fun m σ H' => ∃ x y : Int, σ = [some (.int x), some (.int y)] ∧ Int.gcd x y = Int.gcd n d ∧ m = y.natAbs ∧ H' = H, ⟨_, n, d, rfl, rfl, rfl, rfl⟩, ?_⟩
    rintro m σ H' ⟨x, y, rfl, hg, rfl, hH⟩
    obtain rfl : H = H' := hH.symm
    refine ⟨.int y, rfl, rfl, _, rfl, ite2 (fun e => ?_) (fun e => ?_)⟩
    · have y1 : y ≠ 0 := fun z => by subst z; simp at e
      refine ⟨fun σ' H' => σ' = [some (.int y), some (.int (x.fmod y))] ∧ H' = H, ?_, ?_⟩
      · rintro σ' H' ⟨rfl, rfl⟩
        exact ⟨(x.fmod y).natAbs, fmod_lt y1, y, x.fmod y, rfl, gcd_fmod.trans hg, rfl, rfl⟩
      · exact ⟨.int y, rfl, .int x, rfl, .int y, rfl, x, y, rfl, rfl, y1, _, _, rfl, rfl, rfl⟩
    · have y1 : y = 0 := by
        by_cases z : y = 0
        · exact z
        · exfalso; apply e; simp [z]
      subst y1
      refine ⟨.int x, rfl, x, rfl, ?_⟩
      have hx : (if x < 0 then -x else x) = (Int.gcd n d : Int) := by
        rw [← hg, Int.gcd_zero_right]
        split <;> omega
      rw [hx]
      exact w
end
section
variable {P : Program} {w : World} {K : PySem.W.Frag} {mg : Str → Option Value} {base : Heap} {a : Ad}
def sp_p_least_multiple (_ : PySem.W.Frag) : Sp := fun vs H Q _ => ∃ (a b : Int) (A B : Nat), vs = [.int a, .int b] ∧ 0 < a ∧ 0 < b ∧ a.natAbs < 2 ^ A ∧ b.natAbs < 2 ^ B ∧ 0 < A ∧ 0 < B ∧ A ≤ 8000 ∧ B ≤ 8000 ∧ ∀ m : Int, 0 < m → a ∣ m → b ∣ m → m ≤ a * b → (∀ c, a ∣ c → b ∣ c → m ∣ c) → Q (.int m) H

theorem ok_p_least_multiple (T : Txt K mg a) : FnOk P w K mg base CX0 2 a.f_p_least_multiple a.fd_p_least_multiple ["one", "other"] (sp_p_least_multiple K) := by
  have G_p_greatest_divisor := ok_p_greatest_divisor (P := P) (w := w) (base := base) T
  refine T.F_p_least_multiple.ok sc_p_least_multiple (fun vs H Q E h => ?_) (fun cdv A outer s H vs Q E hr h => ?_)
  · obtain ⟨a, b, A, B, rfl, _⟩ := h
    rfl
  · obtain ⟨a, b, A, B, rfl, a0, b0, aA, bB, A0, B0, A8, B8, w⟩ := h
    refine ⟨_, (pss_one (ps_ret (pe_op op_mulW (pe_op op_fdivW (pv 0) (pe_call G_p_greatest_divisor (hr.mono (by first | decide | omega)) (by rfl) T.g_p_greatest_divisor T.F_p_greatest_divisor.kp T.b_p_greatest_divisor .nil pass0 (pa_cons (pv 0) (pa_cons (pv 1) pa_nil)))) (pv 1)))), ?_⟩
    have hg : Int.gcd a b ≠ 0 := fun e => by have := (Int.gcd_eq_zero_iff.mp e).1; omega
    have g0 : (0 : Int) < (Int.gcd a b : Int) := by omega
    refine ⟨.int a, rfl, .int a, rfl, .int b, rfl, a, b, rfl, ?_⟩
    obtain ⟨c, hc⟩ := Int.gcd_dvd_left (a := a) (b := b)
    obtain ⟨d, hd⟩ := Int.gcd_dvd_right (a := a) (b := b)
    have least : ∀ m x : Int, m * (Int.gcd a b : Int) = a * b → a ∣ x → b ∣ x → m ∣ x := fun m x e h1 h2 => lcm_least rfl e a0 b0 h1 h2
    generalize (Int.gcd a b : Int) = g at *
    have c0 : 0 < c := Int.pos_of_mul_pos_right (by rw [← hc]; exact a0) g0
    have d0 : 0 < d := Int.pos_of_mul_pos_right (by rw [← hd]; exact b0) g0
    have ga : g ≤ a := by rw [hc]; have := Int.mul_le_mul_of_nonneg_left (show (1 : Int) ≤ c by omega) (show 0 ≤ g by omega); omega
    have ca : c ≤ a := by rw [hc]; have := Int.mul_le_mul_of_nonneg_right (show (1 : Int) ≤ g by omega) (show 0 ≤ c by omega); omega
    have hq : a / g = c := by rw [hc]; exact Int.mul_ediv_cancel_left c (by omega)
    have gA : g.natAbs < 2 ^ A := by have : g.natAbs ≤ a.natAbs := by omega
                                     omega
    have cA : c.natAbs < 2 ^ A := by have : c.natAbs ≤ a.natAbs := by omega
                                     omega
    refine ⟨a, g, rfl, rfl, wide_div g0 gA A0 (by omega), .int b, rfl, a / g, b, rfl, rfl, ?_, ?_⟩
    · rw [hq]; exact wide_mul cA bB A0 B0 (by omega)
    rw [hq]
    refine w (c * b) (Int.mul_pos c0 b0) ⟨d, ?_⟩ ⟨c, Int.mul_comm c b⟩ (Int.mul_le_mul_of_nonneg_right ca (by omega)) (fun x h1 h2 => least _ x (by rw [hc, Int.mul_comm (c * b) g, Int.mul_assoc]) h1 h2)
    rw [hc, hd, Int.mul_comm c (g * d), Int.mul_assoc, Int.mul_assoc, Int.mul_comm d c]
end
section
variable {P : Program} {w : World} {K : PySem.W.Frag} {mg : Str → Option Value} {base : Heap} {a : Ad}
def sp_p_common_denominator (K : PySem.W.Frag) : Sp := fun vs H Q _ => ∃ (l : Addr) (xs : List V) (fs : List QQ) (D : Int) (A : Nat), vs = [.ref l] ∧ (SqT K H l xs ∨ SqL K H l xs) ∧ AllG (fun v f => Fr K H v f.1 f.2) xs fs ∧ (∀ f ∈ fs, 0 < f.2 ∧ f.2 ∣ D) ∧ 0 < D ∧ D.natAbs < 2 ^ A ∧ 0 < A ∧ A ≤ 8000 ∧ ∀ m : Int, 0 < m → (∀ f ∈ fs, f.2 ∣ m) → (∀ c : Int, (∀ f ∈ fs, f.2 ∣ c) → m ∣ c) → Q (.int m) H

theorem ok_p_common_denominator (T : Txt K mg a) : FnOk P w K mg base CX0 3 a.f_p_common_denominator a.fd_p_common_denominator ["row"] (sp_p_common_denominator K) := by
  have G_p_least_multiple := ok_p_least_multiple (P := P) (w := w) (base := base) T
  refine T.F_p_common_denominator.ok sc_p_common_denominator (fun vs H Q E h => ?_) (fun cdv A outer s H vs Q E hr h => ?_)
  · obtain ⟨l, xs, fs, D, A, rfl, _⟩ := h
    rfl
  · obtain ⟨l, xs, fs, D, A, rfl, hl, hA, hF, D0, DB, A0, A8, w⟩ := h
    refine ⟨_, (pss_cons (ps_set (i := 1) sc_p_common_denominator.nd rfl (by first | exact Or.inl rfl | exact Or.inr rfl) pe_int)
          (pss_cons (ps_for PassesOwn.never rfl (EnT.pi_or (pi_list (pv 0)) (pi_tup (pv 0))) (pg_tup rfl (pgs_cons (pg_name (i := 2) sc_p_common_denominator.nd rfl (by first | exact Or.inl rfl | exact Or.inr rfl)) (pgs_cons (pg_name (i := 3) sc_p_common_denominator.nd rfl (by first | exact Or.inl rfl | exact Or.inr rfl)) pgs_nil))) (pss_one (ps_set (i := 1) sc_p_common_denominator.nd rfl (by first | exact Or.inl rfl | exact Or.inr rfl) (pe_call G_p_least_multiple (hr.mono (by first | decide | omega)) (by rfl) T.g_p_least_multiple T.F_p_least_multiple.kp T.b_p_least_multiple .nil pass0 (pa_cons (pv 1) (pa_cons (pv 3) pa_nil))))))
          (pss_one (ps_ret (pv 1))))), ?_⟩
    have xl : xs.length = fs.length := hA.1
    have sm : ∀ {m : Int}, 0 < m → m ∣ D → m.natAbs < 2 ^ A := fun {m} m0 hm => by
      have := Int.le_of_dvd D0 hm
      omega
    refine seq_or (a := l) (xs := xs) (fun Q h => ⟨.ref l, rfl, h⟩) hl fun J hJ => for_sq hJ (fun i σ H' => ∃ m y2 y3, σ = [some (.ref l), some (.int m), y2, y3] ∧ H = H' ∧ 0 < m ∧ (∀ f ∈ fs.take i, f.2 ∣ m) ∧ ∀ c : Int, (∀ f ∈ fs, f.2 ∣ c) → m ∣ c) ⟨1, none, none, rfl, rfl, by decide, (fun f hf => by cases hf), fun c _ => Int.one_dvd c⟩ (fun i σ H' _ z => by obtain ⟨m, y2, y3, _, rfl, _⟩ := z; exact Same.refl _) ?_ ?_
    · rintro i x σ H' hx ⟨m, y2, y3, rfl, rfl, m0, hm, hl'⟩
      obtain ⟨f, hf, p, rfl, hp⟩ := hA.at hx
      have hfm := List.mem_of_getElem? hf
      obtain ⟨d0, dB⟩ := hF f hfm
      have mD := hl' D fun g hg => (hF g hg).2
      refine ⟨p, _, rfl, hp, rfl, _, _, rfl, _, _, rfl, rfl, ?_⟩
      refine ⟨.int m, rfl, .int f.2, rfl, m, f.2, A, A, rfl, m0, d0, sm m0 mD, sm d0 dB, A0, A0, A8, A8, fun m' m0' e1 e2 le lst => ?_⟩
      refine ⟨m', _, _, rfl, rfl, m0', fun g hg => ?_, fun c hc => lst c (hl' c hc) (hc f hfm)⟩
      rw [List.take_add_one, hf] at hg
      rcases List.mem_append.mp hg with h | h
      · exact Int.dvd_trans (hm g h) e1
      · rw [List.mem_singleton.mp (show g ∈ [f] from h)]; exact e2
    rintro σ H' ⟨m, y2, y3, rfl, rfl, m0, hm, hl'⟩
    rw [xl, List.take_length] at hm
    exact ⟨.int m, rfl, w m m0 hm hl'⟩
end
section
variable {P : Program} {w : World} {K : PySem.W.Frag} {mg : Str → Option Value} {base : Heap} {a : Ad}
def sp_p_fraction (_ : PySem.W.Frag) : Sp := fun vs H Q _ => ∃ (n d : Int), vs = [.int n, .int d] ∧ d ≠ 0 ∧ d.natAbs < 2 ^ 8000 ∧ ∀ p, H p = none → Q (.ref p) (upd H p (.tup [.int (red n d).1, .int (red n d).2]))

theorem ok_p_fraction (T : Txt K mg a) : FnOk P w K mg base CX0 2 a.f_p_fraction a.fd_p_fraction ["num", "den"] (sp_p_fraction K) := by
  have G_p_greatest_divisor := ok_p_greatest_divisor (P := P) (w := w) (base := base) T
  refine FunD.ok0 T.F_p_fraction sc_p_fraction (fun vs H Q E h => ?_) (fun cdv A outer s H vs Q E hr h => ?_)
  · obtain ⟨n, d, rfl, _⟩ := h
    rfl
  · obtain ⟨n, d, rfl, hd, dB, w⟩ := h
    refine ⟨_, (pss_cons (ps_if (pt_cmpR op_eq (pv 1) pe_int (nomark _)) (pss_one ps_never) pss_nil)
          (pss_cons (ps_set (i := 2) sc_p_fraction.nd rfl (by first | exact Or.inl rfl | exact Or.inr rfl) (pe_call G_p_greatest_divisor (hr.mono (by first | decide | omega)) (by rfl) T.g_p_greatest_divisor T.F_p_greatest_divisor.kp T.b_p_greatest_divisor .nil pass0 (pa_cons (pv 0) (pa_cons (pv 1) pa_nil))))
          (C8.pss_cut (ps_if (pt_cmpR op_lt (pv 1) pe_int (nomark _)) (pss_one (ps_set (i := 2) sc_p_fraction.nd rfl (by first | exact Or.inl rfl | exact Or.inr rfl) (pe_un un_neg (pv 2)))) pss_nil)
          (pss_one (ps_ret (pe_tup (pa_cons (pe_op op_fdivA (pv 0) (pv 2)) (pa_cons (pe_op op_fdivA (pv 1) (pv 2)) pa_nil)))))))), ?_⟩
    have g0 := gcd_posI (n := n) hd
    have gB : (Int.gcd n d : Int).natAbs < 2 ^ 8000 := by
      refine Nat.lt_of_le_of_lt ?_ dB
      have h1 : Int.gcd n d ∣ d.natAbs := Nat.gcd_dvd_right _ _
      have h2 := Nat.le_of_dvd (by omega) h1
      omega
    have fr := frac_red (n := n) hd
    refine ⟨.int d, rfl, rfl, _, rfl, ifF (decide_eq_false fun z => hd (V.int.inj z)) ?_⟩
    refine ⟨.int n, rfl, .int d, rfl, n, d, rfl, ?_⟩
    refine ⟨fun σ H' => σ = [some (.int n), some (.int d), some (.int (if d < 0 then -(Int.gcd n d : Int) else (Int.gcd n d : Int)))] ∧ H' = H, ?_, ?_⟩
    · refine ⟨.int d, rfl, d, 0, rfl, rfl, _, rfl, ite2 (fun e => ?_) (fun e => ?_)⟩
      · refine ⟨.int (Int.gcd n d : Int), rfl, _, rfl, ?_, rfl⟩
        rw [if_pos (of_decide_eq_true e)]
        rfl
      · refine ⟨?_, rfl⟩
        rw [if_neg (fun z => e (decide_eq_true z))]
        rfl
    · rintro σ H' ⟨rfl, rfl⟩
      generalize hG : (if d < 0 then -(Int.gcd n d : Int) else (Int.gcd n d : Int)) = g at *
      have g1 : g ≠ 0 := by rw [← hG]; split <;> omega
      have g2 : g.natAbs < 2 ^ 8000 := by rw [← hG]; split <;> omega
      have cd : ∀ i, CDivA i g := fun _ => ⟨g1, log2_lt g2 (by decide) (by decide)⟩
      refine ⟨.int n, rfl, .int g, rfl, n, g, rfl, rfl, cd n, .int d, rfl, .int g, rfl, d, g, rfl, rfl, cd d, sz (by show 2 ≤ 100000; decide), fun p np => ?_⟩
      have z := w p np
      rw [← fr] at z
      exact z
end
section
variable {P : Program} {w : World} {K : PySem.W.Frag} {mg : Str → Option Value} {base : Heap} {a : Ad}
def spShapeOk (K : PySem.W.Frag) : Sp := fun vs H Q _ => ∃ (tb : Bool) (R y : Addr) (rv : List (List V)) (ys : List V) (w : Nat), vs = [.ref R, .ref y] ∧ RowsAt tb K H R rv ∧ (∀ xs ∈ rv, xs.length = w) ∧ rv.length ≤ 1000 ∧ w ≤ 1000 ∧ (SqT K H y ys ∨ SqL K H y ys) ∧ ys.length = rv.length ∧ ∀ H', Same H H' → Q .non H'
def sp_p_check_shape (K : PySem.W.Frag) : Sp := spShapeOk K

theorem ok_p_check_shape (T : Txt K mg a) : FnOk P w K mg base CX0 1 a.f_p_check_shape a.fd_p_check_shape ["rows", "targets"] (sp_p_check_shape K) := by
  refine T.F_p_check_shape.ok sc_p_check_shape (fun vs H Q E h => ?_) (fun cdv A outer s H vs Q E hr h => ?_)
  · obtain ⟨tb, R, y, rv, ys, w, rfl, _⟩ := h
    rfl
  · obtain ⟨tb, R, y, rv, ys, w, rfl, ⟨ls, hR, ll, hls⟩, hw, r1, w1, hy, yl, fin⟩ := h
    refine ⟨_, (pss_cons (ps_for PassesOwn.never rfl (EnT.pi_or (pi_enum (by rfl) T.n_enumerate (pa_cons (pv 0) pa_nil)) (EnT.pi_enumT (by rfl) T.n_enumerate (pa_cons (pv 0) pa_nil))) (pg_tup rfl (pgs_cons (pg_name (i := 2) sc_p_check_shape.nd rfl (by first | exact Or.inl rfl | exact Or.inr rfl)) (pgs_cons (pg_name (i := 3) sc_p_check_shape.nd rfl (by first | exact Or.inl rfl | exact Or.inr rfl)) pgs_nil))) (pss_one (ps_if (pt_cmpR op_ne (pe_callB call_len (by rfl) T.n_len (by decide +kernel) (pa_cons (pv 3) pa_nil)) (pe_callB call_len (by rfl) T.n_len (by decide +kernel) (pa_cons (pe_ix ix_any (pv 0) pe_int (fun _ _ => rfl)) pa_nil)) (nomark _)) (pss_one ps_never) pss_nil)))
          (pss_one (ps_if (pt_cmpR op_ne (pe_callB call_len (by rfl) T.n_len (by decide +kernel) (pa_cons (pv 1) pa_nil)) (pe_callB call_len (by rfl) T.n_len (by decide +kernel) (pa_cons (pv 0) pa_nil)) (nomark _)) (pss_one ps_never) pss_nil))), ?_⟩
    have xl : (ls.map V.ref).length = ls.length := List.length_map ..
    have at' : ∀ {H' : Hp} (k : Nat) v, Same H H' → (ls.map V.ref)[k]? = some v → ∃ l xs, v = .ref l ∧ ZpN.Sq tb K H' l xs ∧ xs.length = w := fun {H'} k v s e => by
      rw [List.getElem?_map] at e
      cases e2 : ls[k]? with
      | none => rw [e2] at e; cases e
      | some l =>
        rw [e2] at e
        cases e
        have hk : k < rv.length := by
          have := (List.getElem?_eq_some_iff.mp e2).1
          omega
        have e3 : rv[k]? = some (rv[k]'hk) := List.getElem?_eq_getElem hk
        exact ⟨l, _, rfl, zsq_same (hls k l _ e2 e3) s, hw _ (List.mem_of_getElem? e3)⟩
    have lenS : ∀ {H' : Hp} {l : Addr} {xs : List V}, ZpN.Sq tb K H' l xs → SqL K H' l xs ∨ SqT K H' l xs := fun {H' l xs} h => by
      cases tb
      · exact .inl h
      · exact .inr h
    refine en_or (a := R) (xs := ls.map V.ref) (fun Q h => ⟨.ref R, rfl, h⟩) hR fun J hJ => ?_
    refine ⟨fun i m σ H1 => ∃ (y2 y3 : Option V), i + m = ls.length ∧ σ = [some (.ref R), some (.ref y), y2, y3] ∧ Same H H1, ⟨ls.length, none, none, by omega, rfl, Same.refl H⟩, fun i m σ H1 hW => ?_⟩
    obtain ⟨y2, y3, em, rfl, s1⟩ := hW
    by_cases hi : i < ls.length
    · refine .inr ⟨hJ.go i H1 s1 (by omega), fun σ' H' => ∃ (y2 y3 : Option V), σ' = [some (.ref R), some (.ref y), y2, y3] ∧ Same H H', fun σ' H' hN => ?_, fun v H2 hv => ?_⟩
      · obtain ⟨y2, y3, e1, e2⟩ := hN
        exact ⟨m - 1, by omega, y2, y3, by omega, e1, e2⟩
      · obtain ⟨tt, u, rfl, nT, rfl, hu⟩ := hJ.yld i H1 v H2 s1 hv
        have s2 := s1.trans (Same.new (o := .tup [.int (i : Nat), u]) nT)
        obtain ⟨l, xs, rfl, hl, lw⟩ := at' i u s2 hu
        have hx0 : (ls.map V.ref)[0]? = some ((ls.map V.ref)[0]'(by omega)) := List.getElem?_eq_getElem _
        obtain ⟨l0, xs0, e0, hl0, lw0⟩ := at' 0 _ s2 hx0
        rw [e0] at hx0
        refine ⟨tt, _, rfl, SqT.of upd_same, rfl, _, _, rfl, _, _, rfl, rfl, ?_⟩
        have hx0' : (ls.map V.ref)[(0 : Nat)]? = some (.ref l0) := hx0
        refine ⟨.ref l, rfl, .ref l, xs.length, rfl, len_any (zsq_or hl), .ref R, rfl, ixA (any_same hR s2) (atI_nat (j := 0) hx0') ⟨.ref l0, xs0.length, rfl, len_any (zsq_or hl0), rfl, _, rfl, ifF (by rw [lw, lw0]; simp) ⟨_, _, rfl, s2⟩⟩⟩
    · refine .inl ⟨hJ.stop i H1 s1 (by omega), ?_⟩
      refine ⟨.ref y, rfl, .ref y, ys.length, rfl, len_any (any_same hy s1), .ref R, rfl, .ref R, (ls.map V.ref).length, rfl, len_any (any_same hR s1), rfl, _, rfl, ifF (by rw [xl, ll, yl]; simp) (fin _ s1)⟩
end
section
variable {P : Program} {w : World} {K : PySem.W.Frag} {mg : Str → Option Value} {base : Heap} {a : Ad}
def spCols (K : PySem.W.Frag) : Sp := fun vs H Q _ => ∃ (tb : Bool) (R : Addr) (rv : List (List V)) (w : Nat), vs = [.ref R] ∧ RowsAt tb K H R rv ∧ (∀ xs ∈ rv, xs.length = w) ∧ (rv = [] → w = 0) ∧ rv.length ≤ 1000 ∧ w ≤ 1000 ∧
  ∀ (r : Addr) (cs : List V) (H' : Hp), Same H H' → H r = none → H' r = some (.lst cs) → AllG (fun v c => ∃ p, v = .ref p ∧ H' p = some (.lst c)) cs (colsV rv w) → Q (.ref r) H'
def sp_p_columns_of (K : PySem.W.Frag) : Sp := spCols K

theorem ok_p_columns_of (T : Txt K mg a) : FnOk P w K mg base CX0 1 a.f_p_columns_of a.fd_p_columns_of ["rows"] (sp_p_columns_of K) := by
  refine T.F_p_columns_of.ok sc_p_columns_of (fun vs H Q E h => ?_) (fun cdv A outer s H vs Q E hr h => ?_)
  · obtain ⟨tb, R, rv, w, rfl, _⟩ := h
    rfl
  · obtain ⟨tb, R, rv, w, rfl, ⟨ls, hR, ll, hls⟩, hw, h0, r1, w1, fin⟩ := h
    refine ⟨_, (pss_one (ps_ret (pe_lc (own := [("column", 1)]) (g := gName 1) rfl sc_p_columns_of.nd (EnT.pi_or (ZpN.pi_zN (tb := false) (by rfl) T.n_zip (pv 0)) (ZpN.pi_zN (tb := true) (by rfl) T.n_zip (pv 0))) (blkOk_by (own := [("column", 1)]) (N := ["rows", "column"]) (sc := defScope s_p_columns_of) (by decide +kernel)) (fun _ _ _ _ _ => (pg_name (i := 1) sc_p_columns_of.nd rfl (Or.inl rfl))) (fun _ _ _ _ _ => pts_nil) (fun _ _ _ _ _ => (pe_callTy (listK (K := K) rfl) (by rfl) T.n_list (by decide +kernel) (pa_cons (pv 1) pa_nil)))))), ?_⟩
    have hall : ∀ l ∈ ls, ∃ xs, ZpN.Sq tb K H l xs := fun l hl => by
      obtain ⟨k, hk, e⟩ := List.getElem_of_mem hl
      have e' : ls[k]? = some l := by rw [List.getElem?_eq_getElem hk, e]
      exact ⟨_, hls k l _ e' (List.getElem?_eq_getElem (by omega))⟩
    have both : ∀ R', R' (ZpN.IzN tb K ls) H → (ZpN.iZN false K (tVar 0) (L2.start ["rows", "column"] [V.ref R]) H R' ∨ ZpN.iZN true K (tVar 0) (L2.start ["rows", "column"] [V.ref R]) H R') := fun R' h => by
      cases tb
      · exact .inl ⟨.ref R, rfl, R, ls, rfl, hR, by omega, hall, h⟩
      · exact .inr ⟨.ref R, rfl, R, ls, rfl, hR, by omega, hall, h⟩
    refine both _ fun D nD => ?_
    refine lc_zN hls ll hw h0 (fun i H4 => Same H H4 ∧ ∃ cs, H4 D = some (.lst cs) ∧ AllG (fun v c => ∃ p, v = V.ref p ∧ p ≠ D ∧ H4 p = some (.lst c)) cs ((List.range i).map fun j => colV rv j)) ⟨Same.new nD, [], upd_same, AllG.nil⟩ (fun i H4 _ h => h.1) ?_ ?_
    · rintro i H4 t hi ⟨s4, cs, hD, hcs⟩ nt
      have st := Same.new (o := .tup (colV rv i)) nt
      refine ⟨rfl, tYes_if ?_⟩
      refine ⟨.ref t, rfl, t, colV rv i, rfl, .inr (SqT.of upd_same), fun r nr => ?_⟩
      have sr := Same.new (o := .lst (colV rv i)) nr
      have hD6 := sr _ _ (st _ _ hD)
      have rD : r ≠ D := (ne_of_none (st _ _ hD) nr).symm
      have cl : cs.length = i := by rw [hcs.1, List.length_map, List.length_range]
      refine ⟨cs, hD6, szl (by omega), fun b o e => ?_, cs ++ [.ref r], upd_same, ?_⟩
      · rw [upd_ne (ne_of_none e nD)]
        exact sr _ _ (st _ _ (s4 _ _ e))
      · rw [List.range_succ, List.map_append]
        refine AllG.app (hcs.mono fun v c h => ?_) (AllG.one ⟨r, rfl, rD, by rw [upd_ne rD]; exact upd_same⟩)
        obtain ⟨p, e1, e2, e3⟩ := h
        exact ⟨p, e1, e2, by rw [upd_ne e2]; exact sr _ _ (st _ _ e3)⟩
    rintro H4 ⟨s4, cs, hD, hcs⟩
    refine fin D cs H4 s4 nD hD (hcs.mono fun v c h => ?_)
    obtain ⟨p, e1, _, e3⟩ := h
    exact ⟨p, e1, e3⟩
end
section
variable {P : Program} {w : World} {K : PySem.W.Frag} {mg : Str → Option Value} {base : Heap} {a : Ad}
def spInts (K : PySem.W.Frag) : Sp := fun vs H Q _ => ∃ (l : Addr) (xs : List V) (qs : List Rat) (B C : Nat) (P : Int), vs = [.ref l] ∧ (SqT K H l xs ∨ SqL K H l xs) ∧ FRs K H xs qs B ∧ 0 < B ∧ B ≤ 8000 ∧ 0 < P ∧ (∀ q ∈ qs, (q.den : Int) ∣ P) ∧ P.natAbs ≤ 2 ^ C ∧ C + 1 ≤ 8000 ∧ xs.length ≤ 1000 ∧
  ∀ (r : Addr) (zs : List Int) (s : Int) (H' : Hp), Same H H' → H r = none → H' r = some (.lst (zs.map V.int)) → 0 < s → s.natAbs ≤ 2 ^ (C) → Sc (s : Rat) zs qs → (∀ z ∈ zs, z.natAbs ≤ 2 ^ (B + C)) → zs = intsQ qs → Q (.ref r) H'
def sp_p_as_integers (K : PySem.W.Frag) : Sp := spInts K

theorem ok_p_as_integers (T : Txt K mg a) : FnOk P w K mg base CX0 4 a.f_p_as_integers a.fd_p_as_integers ["row"] (sp_p_as_integers K) := by
  have G_p_common_denominator := ok_p_common_denominator (P := P) (w := w) (base := base) T
  refine T.F_p_as_integers.ok sc_p_as_integers (fun vs H Q E h => ?_) (fun cdv A outer s H vs Q E hr h => ?_)
  · obtain ⟨l, xs, qs, B, C, P, rfl, _⟩ := h
    rfl
  · obtain ⟨l, xs, qs, B, C, P, rfl, hl, hF, B0, B8, p0, pD, pB, C8, x1, w⟩ := h
    refine ⟨_, (pss_cons (ps_set (i := 1) sc_p_as_integers.nd rfl (by first | exact Or.inl rfl | exact Or.inr rfl) (pe_call G_p_common_denominator (hr.mono (by first | decide | omega)) (by rfl) T.g_p_common_denominator T.F_p_common_denominator.kp T.b_p_common_denominator .nil pass0 (pa_cons (pv 0) pa_nil)))
          (pss_one (ps_ret (pe_lc (own := [("num", 2), ("den", 3)]) (g := gTup K 2 (gCons (gName 2) (gCons (gName 3) gNil))) rfl sc_p_as_integers.nd (EnT.pi_or (pi_list (pv 0)) (pi_tup (pv 0))) (blkOk_by (own := [("num", 2), ("den", 3)]) (N := ["row", "scale", "num", "den"]) (sc := defScope s_p_as_integers) (by decide +kernel)) (fun _ _ _ _ _ => (pg_tup rfl (pgs_cons (pg_name (i := 2) sc_p_as_integers.nd rfl (Or.inl rfl)) (pgs_cons (pg_name (i := 3) sc_p_as_integers.nd rfl (Or.inl rfl)) pgs_nil)))) (fun _ _ _ _ _ => pts_nil) (fun _ _ _ _ _ => (pe_op op_mulW (pv 2) (pe_op op_fdivW (pv 1) (pv 3)))))))), ?_⟩
    have xl : xs.length = qs.length := hF.len
    have lim : 2 ^ (C) < 2 ^ (C + 1) := Nat.pow_lt_pow_right (by decide) (by omega)
    have hfq : AllG (fun v (f : QQ) => Fr K H v f.1 f.2) xs (qs.map ofR) := ⟨by rw [List.length_map]; exact xl, fun i x f a b => by
      rw [List.getElem?_map] at b
      cases e : qs[i]? with
      | none => rw [e] at b; cases b
      | some q => rw [e] at b; cases b; exact (hF.at a e).fr⟩
    refine ⟨.ref l, rfl, l, xs, qs.map ofR, P, C + 1, rfl, hl, hfq, fun f hf => ?_, p0, by omega, by omega, by omega, fun m m0 hm hlst => ?_⟩
    · obtain ⟨q, hq, rfl⟩ := List.mem_map.mp hf
      exact ⟨(low_ofR q).1, pD q hq⟩
    have mP : m ∣ P := hlst P fun f hf => by
      obtain ⟨q, hq, rfl⟩ := List.mem_map.mp hf
      exact pD q hq
    have mle : m ≤ P := Int.le_of_dvd p0 mP
    have mB : m.natAbs ≤ 2 ^ (C) := by omega
    have qm : ∀ q ∈ qs, DvQ m q := fun q hq => hm (ofR q) (List.mem_map.mpr ⟨q, hq, rfl⟩)
    refine seq_or (a := l) (xs := xs) (fun Q h => ⟨.ref l, rfl, h⟩) hl fun J hJ VL nVL => ?_
    refine lc_sq (xs := xs) hJ (fun i H4 => Same H H4 ∧ ∃ is : List Int, H4 VL = some (.lst (is.map V.int)) ∧ is = (qs.take i).map (fun q => q.num * (m / (q.den : Int))) ∧ Sc (m : Rat) is (qs.take i) ∧ ∀ z ∈ is, z.natAbs ≤ 2 ^ (B + C)) ⟨Same.new nVL, [], upd_same, rfl, Sc.nil, fun z hz => by cases hz⟩ (fun i H4 _ h => h.1) ?_ ?_
    · rintro i x H4 hx ⟨s4, is, hV, hI, hS, hZ⟩
      have il := (List.getElem?_eq_some_iff.mp hx).1
      have hq : qs[i]? = some (qs[i]'(by omega)) := List.getElem?_eq_getElem _
      generalize qs[i]'(by omega) = q at *
      have fr := hF.at hx hq
      obtain ⟨p, rfl, hp⟩ := fr.fr
      have bt := fr.bt
      have hqm := List.mem_of_getElem? hq
      have d0 := (low_ofR q).1
      have e := (qm q hqm).int
      have dm : (ofR q).2 ≤ m := Int.le_of_dvd m0 (qm q hqm)
      have qB : (m / (ofR q).2).natAbs ≤ 2 ^ (C) := by
        have h1 : m / (ofR q).2 ≤ m := Int.ediv_le_self _ (by omega)
        have h2 : 0 ≤ m / (ofR q).2 := Int.ediv_nonneg (by omega) (by omega)
        omega
      refine ⟨p, _, rfl, Same.T s4 hp, rfl, _, _, rfl, _, _, rfl, rfl, rfl, tYes_if ?_⟩
      refine ⟨.int (ofR q).1, rfl, .int m, rfl, .int (ofR q).2, rfl, m, (ofR q).2, rfl, rfl, wide_div d0 bt.2 B0 ?_, (ofR q).1, m / (ofR q).2, rfl, rfl, wide_mul bt.1 (Nat.lt_of_le_of_lt qB lim) B0 (by omega) ?_, ?_⟩
      · omega
      · omega
      refine ⟨_, hV, by rw [List.length_map, hS.1, List.length_take]; exact szl (by omega), fun b o e => ?_, is ++ [(ofR q).1 * (m / (ofR q).2)], ?_, ?_, ?_, fun z hz => ?_⟩
      · rw [upd_ne (ne_of_none e nVL)]; exact s4 _ _ e
      · rw [upd_same, List.map_append]; rfl
      · rw [List.take_add_one, hq, List.map_append, ← hI]; rfl
      · rw [List.take_add_one, hq]
        exact hS.snoc e.symm
      · rcases List.mem_append.mp hz with h | h
        · exact hZ z h
        · rw [List.mem_singleton.mp h, Int.natAbs_mul, Nat.pow_add]
          exact Nat.mul_le_mul (Nat.le_of_lt bt.1) qB
    rintro H4 ⟨s4, is, hVL, hI, hS, hZ⟩
    rw [xl, List.take_length] at hS hI
    have em : m = lcmQ qs := lcmQ_is m0 qm fun c hc => hlst c fun f hf => by
      obtain ⟨q, hq, rfl⟩ := List.mem_map.mp hf
      exact hc q hq
    exact w VL is m H4 s4 nVL hVL m0 mB hS hZ (by rw [hI, em]; rfl)
end
section
variable {P : Program} {w : World} {K : PySem.W.Frag} {mg : Str → Option Value} {base : Heap} {a : Ad}
def sp_p_clear_column (K : PySem.W.Frag) : Sp := fun vs H Q _ => ∃ (x p : V) (xs ps : List Int) (c : Nat) (l : Int) (B : Nat), vs = [x, p, .int (c : Nat), .int l] ∧ IL H x xs ∧ IL H p ps ∧ xs.length = ps.length ∧ xs.length ≤ 1000 ∧ c < xs.length ∧ l ≠ 0 ∧ l.natAbs.log2 < 9000 ∧ Ltb B xs ∧ Ltb B ps ∧ 0 < B ∧ B ≤ 400000 ∧
  ∀ r H', Same H H' → H r = none → H' r = some (.lst ((clrF xs ps c l).map V.int)) → Q (.ref r) H'

theorem ok_p_clear_column (T : Txt K mg a) : FnOk P w K mg base CX0 1 a.f_p_clear_column a.fd_p_clear_column ["row", "pivot_row", "column", "last_pivot"] (sp_p_clear_column K) := by
  refine T.F_p_clear_column.ok sc_p_clear_column (fun vs H Q E h => ?_) (fun cdv A outer s H vs Q E hr h => ?_)
  · obtain ⟨x, p, xs, ps, c, l, B, rfl, _⟩ := h
    rfl
  · obtain ⟨x, p, xs, ps, c, l, B, rfl, ⟨xa, rfl, hx⟩, ⟨pa, rfl, hp⟩, el, l10, cl, l0, l9, bx, bp, B0, B4, w⟩ := h
    refine ⟨_, (pss_cons (ps_set (i := 4) sc_p_clear_column.nd rfl (by first | exact Or.inl rfl | exact Or.inr rfl) (pe_ix ix_list (pv 0) (pv 2) (fun _ _ => rfl)))
          (pss_cons (ps_set (i := 5) sc_p_clear_column.nd rfl (by first | exact Or.inl rfl | exact Or.inr rfl) (pe_ix ix_list (pv 1) (pv 2) (fun _ _ => rfl)))
          (pss_one (ps_ret (pe_lc (own := [("one", 6), ("other", 7)]) (g := gTup K 2 (gCons (gName 6) (gCons (gName 7) gNil))) rfl sc_p_clear_column.nd (RZ.pi_zipA (by rfl) T.n_zip (pa_cons (pv 0) (pa_cons (pv 1) pa_nil))) (blkOk_by (own := [("one", 6), ("other", 7)]) (N := ["row", "pivot_row", "column", "last_pivot", "factor", "pivot", "one", "other"]) (sc := defScope s_p_clear_column) (by decide +kernel)) (fun _ _ _ _ _ => (pg_tup rfl (pgs_cons (pg_name (i := 6) sc_p_clear_column.nd rfl (Or.inl rfl)) (pgs_cons (pg_name (i := 7) sc_p_clear_column.nd rfl (Or.inl rfl)) pgs_nil)))) (fun _ _ _ _ _ => pts_nil) (fun _ _ _ _ _ => (pe_op op_fdivA (pe_op op_sub (pe_op op_mulW (pv 5) (pv 6)) (pe_op op_mulW (pv 4) (pv 7))) (pv 3)))))))), ?_⟩
    have hxc : xs[c]? = some (xs[c]'cl) := List.getElem?_eq_getElem cl
    have hpc : ps[c]? = some (ps[c]'(by omega)) := List.getElem?_eq_getElem _
    have ex : vec xs c = xs[c]'cl := vec_at hxc
    have ep : vec ps c = ps[c]'(by omega) := vec_at hpc
    generalize xs[c]'cl = xc at *
    generalize ps[c]'(by omega) = pc at *
    have lx : (xs.map V.int).length = xs.length := List.length_map ..
    have lp : (ps.map V.int).length = ps.length := List.length_map ..
    refine ⟨.ref xa, rfl, .int (c : Nat), rfl, xa, xs.map V.int, (c : Int), .int xc, rfl, rfl, SqL.of hx, atI_nat (by rw [List.getElem?_map, hxc]; rfl), ?_⟩
    refine ⟨.ref pa, rfl, .int (c : Nat), rfl, pa, ps.map V.int, (c : Int), .int pc, rfl, rfl, SqL.of hp, atI_nat (by rw [List.getElem?_map, hpc]; rfl), ?_⟩
    have bxc := bx xc (List.mem_of_getElem? hxc)
    have bpc := bp pc (List.mem_of_getElem? hpc)
    refine ⟨.ref xa, rfl, .ref pa, rfl, xa, pa, xs.map V.int, ps.map V.int, rfl, .inl ⟨SqL.of hx, SqL.of hp, fun L nL => ?_⟩⟩
    refine ⟨fun j m H7 => j + m = xs.length ∧ Same H H7 ∧ H7 L = some (.lst (((clrF xs ps c l).take j).map V.int)), ⟨xs.length, by omega, Same.new nL, upd_same⟩, fun j m H7 hW => ?_⟩
    obtain ⟨em, s7, hL7⟩ := hW
    have cll := clrF_len (c := c) (l := l) el
    by_cases hj : j < xs.length
    · have hxj : xs[j]? = some (xs[j]'hj) := List.getElem?_eq_getElem hj
      have hpj : ps[j]? = some (ps[j]'(by omega)) := List.getElem?_eq_getElem _
      refine .inr ⟨⟨xs.map V.int, ps.map V.int, .int (xs[j]'hj), .int (ps[j]'(by omega)), s7.seq (SqL.of hx), s7.seq (SqL.of hp), by rw [List.getElem?_map, hxj]; rfl, by rw [List.getElem?_map, hpj]; rfl⟩, fun H8 => Same H H8 ∧ H8 L = some (.lst (((clrF xs ps c l).take (j + 1)).map V.int)), fun H8 hN => ⟨m - 1, by omega, by omega, hN⟩, fun v H8 hy => ?_⟩
      obtain ⟨tt, u1, u2, rfl, nT, rfl, f1, f2⟩ := hy
      have h1 := f1 _ (s7.seq (SqL.of hx))
      have h2 := f2 _ (s7.seq (SqL.of hp))
      rw [List.getElem?_map, hxj] at h1
      rw [List.getElem?_map, hpj] at h2
      cases h1
      cases h2
      have bxj := bx _ (List.mem_of_getElem? hxj)
      have bpj := bp _ (List.mem_of_getElem? hpj)
      have st := Same.new (o := .tup [.int (xs[j]'hj), .int (ps[j]'(by omega))]) nT
      refine ⟨tt, _, rfl, SqT.of upd_same, rfl, _, _, rfl, _, _, rfl, rfl, rfl, tYes_if ?_⟩
      refine ⟨.int pc, rfl, .int (xs[j]'hj), rfl, pc, _, rfl, rfl, wide_mul bpc bxj B0 B0 (by omega), .int xc, rfl, .int (ps[j]'(by omega)), rfl, xc, _, rfl, rfl, wide_mul bxc bpj B0 B0 (by omega), _, _, rfl, rfl, .int l, rfl, _, l, rfl, rfl, ⟨l0, l9⟩, ?_⟩
      have hL8 := st _ _ hL7
      refine ⟨_, hL8, szl (by rw [List.length_map, List.length_take]; omega), fun b o e => ?_, ?_⟩
      · rw [upd_ne (ne_of_none e nL)]
        exact st _ _ (s7 _ _ e)
      · rw [upd_same, List.take_add_one, clrF_at hxj hpj, List.map_append, ex, ep]
        rfl
    · refine .inl ⟨⟨xs.map V.int, ps.map V.int, s7.seq (SqL.of hx), s7.seq (SqL.of hp), .inl (by omega)⟩, ?_⟩
      have e : (clrF xs ps c l).take j = clrF xs ps c l := List.take_of_length_le (by omega)
      rw [e] at hL7
      exact w L H7 s7 nL hL7
end
section
variable {P : Program} {w : World} {K : PySem.W.Frag} {mg : Str → Option Value} {base : Heap} {a : Ad}
def sp_p_first_nonzero (K : PySem.W.Frag) : Sp := fun vs H Q _ => ∃ (x : V) (xs : List Int), vs = [x] ∧ IL H x xs ∧ xs.length ≤ 1000 ∧
  ((∀ y ∈ xs, y = 0) → ∀ H', Same H H' → Q .non H') ∧ ∀ (i : Nat) y, xs[i]? = some y → y ≠ 0 → (∀ (j : Nat) z, j < i → xs[j]? = some z → z = 0) → ∀ H', Same H H' → Q (.int (i : Nat)) H'

theorem ok_p_first_nonzero (T : Txt K mg a) : FnOk P w K mg base CX0 1 a.f_p_first_nonzero a.fd_p_first_nonzero ["row"] (sp_p_first_nonzero K) := by
  refine T.F_p_first_nonzero.ok sc_p_first_nonzero (fun vs H Q E h => ?_) (fun cdv A outer s H vs Q E hr h => ?_)
  · obtain ⟨x, xs, rfl, _⟩ := h
    rfl
  · obtain ⟨x, xs, rfl, ⟨xa, rfl, hx⟩, l10, w0, w1⟩ := h
    refine ⟨_, (pss_cons (ps_for PassesOwn.never rfl (pi_enum (by rfl) T.n_enumerate (pa_cons (pv 0) pa_nil)) (pg_tup rfl (pgs_cons (pg_name (i := 1) sc_p_first_nonzero.nd rfl (by first | exact Or.inl rfl | exact Or.inr rfl)) (pgs_cons (pg_name (i := 2) sc_p_first_nonzero.nd rfl (by first | exact Or.inl rfl | exact Or.inr rfl)) pgs_nil))) (pss_one (ps_if (pt_cmpR op_ne (pv 2) pe_int (nomark _)) (pss_one (ps_ret (pv 1))) pss_nil)))
          (pss_one (ps_ret pe_non))), ?_⟩
    have lx : (xs.map V.int).length = xs.length := List.length_map ..
    refine ⟨.ref xa, rfl, xa, xs.map V.int, rfl, SqL.of hx, ?_⟩
    refine ⟨fun i m σ H1 => ∃ (y2 y3 : Option V), i + m = xs.length ∧ σ = [some (.ref xa), y2, y3] ∧ Same H H1 ∧ ∀ (j : Nat) z, j < i → xs[j]? = some z → z = 0, ⟨xs.length, none, none, by omega, rfl, Same.refl H, fun j l z => absurd z (Nat.not_lt_zero _)⟩, fun i m σ H1 hW => ?_⟩
    obtain ⟨y2, y3, em, rfl, s1, hb⟩ := hW
    by_cases hi : i < xs.length
    · have hxi : xs[i]? = some (xs[i]'hi) := List.getElem?_eq_getElem hi
      refine .inr ⟨⟨xs.map V.int, .int (xs[i]'hi), s1.seq (SqL.of hx), by rw [List.getElem?_map, hxi]; rfl⟩, fun σ' H' => ∃ (y2 y3 : Option V), σ' = [some (.ref xa), y2, y3] ∧ Same H H' ∧ ∀ (j : Nat) z, j < i + 1 → xs[j]? = some z → z = 0, fun σ' H' hN => ?_, fun v H2 hy => ?_⟩
      · obtain ⟨y2, y3, e1, e2, e3⟩ := hN
        exact ⟨m - 1, by omega, y2, y3, by omega, e1, e2, e3⟩
      · obtain ⟨tt, u, rfl, nT, rfl, fu⟩ := hy
        have hu := fu _ (s1.seq (SqL.of hx))
        rw [List.getElem?_map, hxi] at hu
        cases hu
        have s2 := s1.trans (Same.new (o := .tup [.int (i : Nat), .int (xs[i]'hi)]) nT)
        refine ⟨tt, _, rfl, SqT.of upd_same, rfl, _, _, rfl, _, _, rfl, rfl, ?_⟩
        by_cases e : xs[i]'hi = 0
        · refine ⟨_, rfl, rfl, _, rfl, ?_⟩
          refine ifF (c := !decide (V.int (xs[i]'hi) = V.int 0)) (by rw [e]; simp) ?_
          refine ⟨_, _, rfl, s2, fun j z jl hj => ?_⟩
          by_cases h : j = i
          · subst h
            rw [hxi] at hj
            cases hj
            exact e
          · exact hb j z (by omega) hj
        · refine ⟨_, rfl, rfl, _, rfl, ?_⟩
          refine ifT (c := !decide (V.int (xs[i]'hi) = V.int 0)) (by simp only [Bool.not_eq_true', decide_eq_false_iff_not]; exact fun z => e (V.int.inj z)) ?_
          exact ⟨_, rfl, w1 i _ hxi e hb _ s2⟩
    · refine .inl ⟨⟨xs.map V.int, s1.seq (SqL.of hx), by omega⟩, ?_⟩
      refine w0 (fun y hy => ?_) _ s1
      obtain ⟨j, hj, e⟩ := List.getElem_of_mem hy
      exact hb j y (by omega) (by rw [List.getElem?_eq_getElem hj, e])
end
section
variable {P : Program} {w : World} {K : PySem.W.Frag} {mg : Str → Option Value} {base : Heap} {a : Ad}
def spElim (K : PySem.W.Frag) : Sp := fun vs H Q _ => ∃ (R : Addr) (rv : List V) (rows : List (List Int)) (w M L : Nat), vs = [.ref R, .int (w : Nat)] ∧ H R = some (.lst rv) ∧ AllG (IL H) rv rows ∧ (∀ x ∈ rows, x.length = w + 1) ∧ rows.length ≤ 1000 ∧ w ≤ 900 ∧ (∀ x ∈ rows, ∀ z ∈ x, z.natAbs ≤ 2 ^ M) ∧ w + 1 ≤ 2 ^ L ∧ (M + L) * (w + 1) ≤ 8900 ∧
  ∀ (t C D R' : Addr) (dv rv' : List V) (H' : Hp), Same H H' → SqT K H' t [.ref C, .ref D, .ref R'] → H C = none → H' C = some (.lst ((Bar.elimN rows w).cols.map fun c => V.int ((c : Nat) : Int))) → H' D = some (.lst dv) → AllG (IL H') dv (Bar.elimN rows w).done → H' R' = some (.lst rv') → AllG (IL H') rv' (Bar.elimN rows w).rest → Q (.ref t) H'
def sp_p_eliminate (K : PySem.W.Frag) : Sp := spElim K

theorem ok_p_eliminate (T : Txt K mg a) : FnOk P w K mg base CX0 2 a.f_p_eliminate a.fd_p_eliminate ["rows", "width"] (sp_p_eliminate K) := by
  have G_p_first_nonzero := ok_p_first_nonzero (P := P) (w := w) (base := base) T
  have G_p_clear_column := ok_p_clear_column (P := P) (w := w) (base := base) T
  refine T.F_p_eliminate.ok sc_p_eliminate (fun vs H Q E h => ?_) (fun cdv A outer s H vs Q E hr h => ?_)
  · obtain ⟨R, rv, rows, w, M, L, rfl, _⟩ := h
    rfl
  · obtain ⟨R, rv, rows, w, M, L, rfl, hR, hA, hw, rl, w9, hM, hL, hB, fin⟩ := h
    refine ⟨_, (pss_cons (ps_set (i := 2) sc_p_eliminate.nd rfl (by first | exact Or.inl rfl | exact Or.inr rfl) (pe_lst pa_nil))
          (pss_cons (ps_set (i := 3) sc_p_eliminate.nd rfl (by first | exact Or.inl rfl | exact Or.inr rfl) (pe_lst pa_nil))
          (pss_cons (ps_set (i := 4) sc_p_eliminate.nd rfl (by first | exact Or.inl rfl | exact Or.inr rfl) (pv 0))
          (pss_cons (ps_set (i := 5) sc_p_eliminate.nd rfl (by first | exact Or.inl rfl | exact Or.inr rfl) pe_int)
          (pss_cons (ps_for PassesOwn.never rfl (pi_range1 (by rfl) T.n_range (pa_cons (pv 1) pa_nil)) (pg_name (i := 6) sc_p_eliminate.nd rfl (by first | exact Or.inl rfl | exact Or.inr rfl)) (pss_cons (ps_set (i := 7) sc_p_eliminate.nd rfl (by first | exact Or.inl rfl | exact Or.inr rfl) (pe_call G_p_first_nonzero (hr.mono (by first | decide | omega)) (by rfl) T.g_p_first_nonzero T.F_p_first_nonzero.kp T.b_p_first_nonzero .nil pass0 (pa_cons (pe_lc (own := [("row", 9)]) (g := gName 9) rfl sc_p_eliminate.nd (pi_list (pv 4)) (blkOk_by (own := [("row", 9)]) (N := ["rows", "width", "columns", "done", "rest", "last_pivot", "column", "at", "pivot_row", "row"]) (sc := defScope s_p_eliminate) (by decide +kernel)) (fun _ _ _ _ _ => (pg_name (i := 9) sc_p_eliminate.nd rfl (Or.inl rfl))) (fun _ _ _ _ _ => pts_nil) (fun _ _ _ _ _ => (pe_ix (ixL (K := K) rfl) (pv 9) (pv 6) (fun _ _ => rfl)))) pa_nil)))
          (pss_one (ps_if (pt_cmpR op_notN (pv 7) pe_non (nomark _)) (pss_cons (ps_set (i := 8) sc_p_eliminate.nd rfl (by first | exact Or.inl rfl | exact Or.inr rfl) (pe_ix ix_list (pv 4) (pv 7) (fun _ _ => rfl)))
          (pss_cons (ps_set (i := 4) sc_p_eliminate.nd rfl (by first | exact Or.inl rfl | exact Or.inr rfl) (pe_op op_cat (pe_slice sl_list (pv 4) po_none (po_some (pv 7))) (pe_slice sl_list (pv 4) (po_some (pe_op op_add (pv 7) pe_int)) po_none)))
          (pss_cons (ps_set (i := 3) sc_p_eliminate.nd rfl (by first | exact Or.inl rfl | exact Or.inr rfl) (pe_op op_cat (pe_lc (own := [("row", 9)]) (g := gName 9) rfl sc_p_eliminate.nd (pi_list (pv 3)) (blkOk_by (own := [("row", 9)]) (N := ["rows", "width", "columns", "done", "rest", "last_pivot", "column", "at", "pivot_row", "row"]) (sc := defScope s_p_eliminate) (by decide +kernel)) (fun _ _ _ _ _ => (pg_name (i := 9) sc_p_eliminate.nd rfl (Or.inl rfl))) (fun _ _ _ _ _ => pts_nil) (fun _ _ _ _ _ => (pe_call G_p_clear_column (hr.mono (by first | decide | omega)) (by rfl) T.g_p_clear_column T.F_p_clear_column.kp T.b_p_clear_column .nil pass0 (pa_cons (pv 9) (pa_cons (pv 8) (pa_cons (pv 6) (pa_cons (pv 5) pa_nil))))))) (pe_lst (pa_cons (pv 8) pa_nil))))
          (pss_cons (ps_setLc (i := 4) (own := [("row", 9)]) (g := gName 9) rfl sc_p_eliminate.nd rfl rfl (sw_true rfl rfl rfl (by decide +kernel)) (pi_list (pv 4)) (blkOk_by (own := [("row", 9)]) (N := ["rows", "width", "columns", "done", "rest", "last_pivot", "column", "at", "pivot_row", "row"]) (sc := defScope s_p_eliminate) (by decide +kernel)) (fun _ _ _ _ _ => (pg_name (i := 9) sc_p_eliminate.nd rfl (Or.inl rfl))) (fun _ _ _ _ _ => pts_nil) (fun _ _ _ _ _ => (pe_call G_p_clear_column (hr.mono (by first | decide | omega)) (by rfl) T.g_p_clear_column T.F_p_clear_column.kp T.b_p_clear_column .nil pass0 (pa_cons (pv 9) (pa_cons (pv 8) (pa_cons (pv 6) (pa_cons (pv 5) pa_nil)))))))
          (pss_cons (ps_set (i := 5) sc_p_eliminate.nd rfl (by first | exact Or.inl rfl | exact Or.inr rfl) (pe_ix ix_list (pv 8) (pv 6) (fun _ _ => rfl)))
          (pss_one (ps_expr (pe_bm PySem.F.plainAttrs_list PySem.F.slot_list_append PySem.F.type_list_append mt_append (pv 2) (pa_cons (pv 6) pa_nil))))))))) pss_nil))))
          (pss_one (ps_ret (pe_tup (pa_cons (pv 2) (pa_cons (pv 3) (pa_cons (pv 4) pa_nil))))))))))), ?_⟩
    refine ⟨sz (by decide), fun C nC => ?_⟩
    refine ⟨sz (by decide), fun D0 nD0 => ?_⟩
    refine ⟨.ref R, rfl, ?_⟩
    have sC := Same.new (o := .lst []) nC
    have sD := Same.new (o := .lst []) nD0
    have DC : D0 ≠ C := fun z => by rw [z, upd_same] at nD0; cases nD0
    have s0 := sC.trans sD
    refine ⟨.int (w : Nat), rfl, (w : Int), rfl, by omega, by omega, ?_⟩
    have RC : R ≠ C := ne_of_none hR nC
    -- the numbers
    have num : ∀ {i : Nat} {ps xs : List (List Int)}, i < w → Bar.EInv rows w i (Bar.elimN rows i) ps xs → (∀ y ∈ (Bar.elimN rows i).done, Ltb 8901 y) ∧ (∀ y ∈ (Bar.elimN rows i).rest, Ltb 8901 y) ∧ (Bar.elimN rows i).last.natAbs.log2 < 9000 ∧ (Bar.elimN rows i).last ≠ 0 := fun {i ps xs} hi I => by
      have lim : 2 ^ ((M + L) * (i + 1)) < 2 ^ 8901 := Nat.pow_lt_pow_right (by decide) (by
        have := Nat.mul_le_mul_left (M + L) (show i + 1 ≤ w + 1 by omega)
        omega)
      obtain ⟨b1, b2, b3⟩ := I.bound hM (L := L) (by omega)
      refine ⟨fun y hy z hz => Nat.lt_of_le_of_lt (b1 y hy z hz) lim, fun y hy z hz => Nat.lt_of_le_of_lt (b2 y hy z hz) lim, ?_, ?_⟩
      · exact Nat.lt_of_lt_of_le (PySem.Flt.log2_lt_of (by decide) (Nat.lt_of_le_of_lt b3 lim)) (by decide)
      · rw [I.last]
        exact I.nz _ (Nat.le_refl _)
    refine ⟨fun i m σ H1 => ∃ (Da Ra : Addr) (dv rv' : List V) (y6 y7 y8 : Option V), i + m = w ∧ σ = [some (.ref R), some (.int (w : Nat)), some (.ref C), some (.ref Da), some (.ref Ra), some (.int (Bar.elimN rows i).last), y6, y7, y8, none] ∧ Same H H1 ∧ H1 C = some (.lst ((Bar.elimN rows i).cols.map fun c => V.int ((c : Nat) : Int))) ∧ H1 Da = some (.lst dv) ∧ Da ≠ C ∧ AllG (ILx C H1) dv (Bar.elimN rows i).done ∧ H1 Ra = some (.lst rv') ∧ Ra ≠ C ∧ AllG (ILx C H1) rv' (Bar.elimN rows i).rest,
      ⟨w, D0, R, [], rv, none, none, none, by omega, rfl, s0, sD _ _ upd_same, upd_same, DC, AllG.nil, s0 _ _ hR, RC, hA.mono fun v x h => (h.x nC).same s0⟩, fun i m σ H1 hW => ?_⟩
    obtain ⟨Da, Ra, dv, rv', y6, y7, y8, em, rfl, s1, hC, hDa, DaC, hdn, hRa, RaC, hrs⟩ := hW
    have nk : ∀ {b : Addr} {o : HO} {H1 : Hp}, Same H H1 → H b = some o → b ≠ C := fun {b o _} _ e => ne_of_none e nC
    by_cases hi : i < w
    rotate_left
    · have ei : i = w := by omega
      subst ei
      refine .inl ⟨(show ((i : Nat) : Int).toNat ≤ i by omega), ?_⟩
      refine ⟨.ref C, rfl, .ref Da, rfl, .ref Ra, rfl, sz (by show 3 ≤ 100000; decide), fun t nt => ?_⟩
      have st := Same.new (o := .tup [.ref C, .ref Da, .ref Ra]) nt
      exact fin t C Da Ra dv rv' _ (s1.trans st) (SqT.of upd_same) nC (st _ _ hC) (st _ _ hDa) (hdn.mono fun v x h => (h.il).same st) (st _ _ hRa) (hrs.mono fun v x h => (h.il).same st)
    obtain ⟨ps, xs, I⟩ := Bar.elim_inv hw (show i ≤ w by omega)
    obtain ⟨bd, br, l9, l0⟩ := num hi I
    have es : Bar.elimN rows (i + 1) = Bar.stepE (Bar.elimN rows i) i := rfl
    have lens : ∀ y ∈ (Bar.elimN rows i).rest, y.length = w + 1 := fun y hy => by
      obtain ⟨j, hj, e⟩ := List.getElem_of_mem hy
      obtain ⟨x, _, l, _⟩ := I.rs j y (by rw [List.getElem?_eq_getElem hj, e])
      exact l
    have lend : ∀ y ∈ (Bar.elimN rows i).done, y.length = w + 1 := fun y hy => by
      obtain ⟨j, hj, e⟩ := List.getElem_of_mem hy
      exact (I.dn j y (by rw [List.getElem?_eq_getElem hj, e])).1
    have pl : (ps ++ xs).length = rows.length := I.perm.length_eq
    rw [List.length_append] at pl
    have dl : (Bar.elimN rows i).done.length ≤ 1000 := by rw [I.ld]; omega
    have rl' : (Bar.elimN rows i).rest.length ≤ 1000 := by rw [I.lr]; omega
    have cl : (Bar.elimN rows i).cols.length ≤ 1000 := by rw [I.lc]; omega
    obtain ⟨s', hs'⟩ : ∃ s', s' = Bar.elimN rows (i + 1) := ⟨_, rfl⟩
    rw [← hs'] at es
    generalize Bar.elimN rows i = s at *
    refine .inr ⟨(show i < ((w : Nat) : Int).toNat by omega), fun σ' H1 => ∃ (Da Ra : Addr) (dv rv' : List V) (y6 y7 y8 : Option V), σ' = [some (.ref R), some (.int (w : Nat)), some (.ref C), some (.ref Da), some (.ref Ra), some (.int s'.last), y6, y7, y8, none] ∧ Same H H1 ∧ H1 C = some (.lst (s'.cols.map fun c => V.int ((c : Nat) : Int))) ∧ H1 Da = some (.lst dv) ∧ Da ≠ C ∧ AllG (ILx C H1) dv s'.done ∧ H1 Ra = some (.lst rv') ∧ Ra ≠ C ∧ AllG (ILx C H1) rv' s'.rest, fun σ' H' hN => ?_, fun v G1 hy => ?_⟩
    · obtain ⟨Da, Ra, dv, rv', y6, y7, y8, e⟩ := hN
      exact ⟨m - 1, by omega, Da, Ra, dv, rv', y6, y7, y8, by omega, by rw [← hs']; exact e⟩
    obtain ⟨rfl, rfl⟩ := hy
    rw [Int.zero_add]
    have rvl : rv'.length = s.rest.length := hrs.1
    have dvl : dv.length = s.done.length := hdn.1
    -- the column
    refine ⟨.ref Ra, rfl, Ra, rfl, ⟨_, SqL.of hRa⟩, fun L1 nL1 => ?_⟩
    have L1C : L1 ≠ C := (ne_of_none hC nL1).symm
    refine lc_list (K := K) (a := Ra) (xs := rv') (fun c H3 => Same G1 H3 ∧ H3 L1 = some (.lst (((s.rest.take c).map fun x => vec x i).map V.int))) ⟨Same.new nL1, upd_same⟩ (fun c H3 _ h3 => SqL.of (h3.1 _ _ hRa)) ?_ ?_
    · rintro c x H3 hx ⟨s3, hL3⟩
      obtain ⟨z, hz, p, rfl, pC, hp⟩ := hrs.at hx
      have zl := lens z (List.mem_of_getElem? hz)
      have hzi : z[i]? = some (z[i]'(by omega)) := List.getElem?_eq_getElem _
      have cl' := (List.getElem?_eq_some_iff.mp hx).1
      refine ⟨rfl, tYes_if ?_⟩
      refine ⟨.ref p, rfl, .int (i : Nat), rfl, p, z.map V.int, (i : Int), .int (z[i]'(by omega)), rfl, rfl, SqL.of (s3 _ _ hp), atI_nat (by rw [List.getElem?_map, hzi]; rfl), ?_⟩
      refine ⟨_, hL3, szl (by rw [List.length_map, List.length_map, List.length_take]; omega), fun b o e => ?_, ?_⟩
      · rw [upd_ne (ne_of_none e nL1)]
        exact s3 _ _ e
      · rw [upd_same, List.take_add_one, hz, List.map_append, List.map_append, ← vec_at hzi]
        rfl
    rintro H2 ⟨s2, hL1⟩
    rw [rvl, List.take_length] at hL1
    have s02 := s1.trans s2
    have hC2 := s2 _ _ hC
    have hDa2 := s2 _ _ hDa
    have hRa2 := s2 _ _ hRa
    have hdn2 : AllG (ILx C H2) dv s.done := hdn.mono fun v x h => h.same s2
    have hrs2 : AllG (ILx C H2) rv' s.rest := hrs.mono fun v x h => h.same s2
    clear hC hDa hRa hdn hrs nL1
    refine ⟨.ref L1, (s.rest.map fun x => vec x i), rfl, ⟨L1, rfl, hL1⟩, by rw [List.length_map]; omega, fun hz H3 s3 => ?_, fun at' y hat hy0 hfst H3 s3 => ?_⟩
    · -- no pivot
      have e1 : Bar.firstNZ (s.rest.map fun x => vec x i) = none := by
        rw [Bar.firstNZ, List.findIdx?_eq_none_iff]
        intro x hx
        rw [hz x hx]
        rfl
      have e2 : s' = s := by
        rw [es]
        unfold Bar.stepE
        rw [e1]
      refine ⟨_, rfl, rfl, _, rfl, ?_⟩
      refine ifF (c := !decide (V.non = V.non)) (by simp) ?_
      rw [e2]
      exact ⟨Da, Ra, dv, rv', _, _, _, rfl, s02.trans s3, s3 _ _ hC2, s3 _ _ hDa2, DaC, hdn2.mono fun v x h => h.same s3, s3 _ _ hRa2, RaC, hrs2.mono fun v x h => h.same s3⟩
    -- a pivot
    have s03 := s02.trans s3
    have hC3 := s3 _ _ hC2
    have hDa3 := s3 _ _ hDa2
    have hRa3 := s3 _ _ hRa2
    have hdn3 : AllG (ILx C H3) dv s.done := hdn2.mono fun v x h => h.same s3
    have hrs3 : AllG (ILx C H3) rv' s.rest := hrs2.mono fun v x h => h.same s3
    clear hC2 hDa2 hRa2 hdn2 hrs2
    have ha : at' < s.rest.length := by
      have := (List.getElem?_eq_some_iff.mp hat).1
      rwa [List.length_map] at this
    have hz : s.rest[at']? = some (s.rest[at']'ha) := List.getElem?_eq_getElem ha
    have e1 : Bar.firstNZ (s.rest.map fun x => vec x i) = some at' := by
      rw [Bar.firstNZ, List.findIdx?_eq_some_iff_getElem]
      have hl : at' < (s.rest.map fun x => vec x i).length := by rw [List.length_map]; exact ha
      refine ⟨hl, ?_, fun j hj => ?_⟩
      · rw [List.getElem?_eq_getElem hl] at hat
        rw [Option.some.inj hat, decide_eq_false hy0]
        rfl
      · rw [hfst j _ hj (List.getElem?_eq_getElem (by omega))]
        decide
    have eD : s.rest.getD at' [] = s.rest[at']'ha := Bar.getD_of hz
    have e2 : s' = { cols := s.cols ++ [i], done := s.done.map (fun y => clrF y (s.rest[at']'ha) i s.last) ++ [s.rest[at']'ha], rest := (s.rest.take at' ++ s.rest.drop (at' + 1)).map (fun y => clrF y (s.rest[at']'ha) i s.last), last := vec (s.rest[at']'ha) i } := by
      rw [es]
      unfold Bar.stepE
      rw [e1]
      dsimp only
      rw [eD]
    have zl := lens _ (List.mem_of_getElem? hz)
    have bz := br _ (List.mem_of_getElem? hz)
    rw [e2]
    clear e2 e1 es hs'
    generalize s.rest[at']'ha = z at *
    have hzi : z[i]? = some (z[i]'(by omega)) := List.getElem?_eq_getElem _
    obtain ⟨v, hv⟩ : ∃ v, rv'[at']? = some v := ⟨_, List.getElem?_eq_getElem (by omega)⟩
    obtain ⟨p, rfl, pC, hp⟩ := hrs3.2 _ _ _ hv hz
    refine ⟨_, rfl, rfl, _, rfl, ?_⟩
    refine ifT (c := !decide (V.int (at' : Nat) = V.non)) (by simp) ?_
    refine ⟨.ref Ra, rfl, .int (at' : Nat), rfl, Ra, rv', (at' : Int), .ref p, rfl, rfl, SqL.of hRa3, atI_nat hv, ?_⟩
    refine ⟨.ref Ra, rfl, .int (at' : Nat), rfl, (at' : Int), rfl, Ra, rv', rfl, SqL.of hRa3, fun c1 nc1 => ?_⟩
    rw [show cutV rv' none (some (at' : Int)) = rv'.take at' from cutToL rv' at' (by omega)]
    have t1 := Same.new (o := .lst (rv'.take at')) nc1
    refine ⟨.ref Ra, rfl, .int (at' : Nat), rfl, (at' : Int), 1, rfl, rfl, ((at' + 1 : Nat) : Int), by rw [Int.natCast_add]; rfl, Ra, rv', rfl, SqL.of (t1 _ _ hRa3), fun c2 nc2 => ?_⟩
    rw [show cutV rv' (some ((at' + 1 : Nat) : Int)) none = rv'.drop (at' + 1) from cutFromL rv' (at' + 1) (by omega)]
    have t2 := Same.new (o := .lst (rv'.drop (at' + 1))) nc2
    refine ⟨c1, c2, rv'.take at', rv'.drop (at' + 1), rfl, rfl, t2 _ _ upd_same, upd_same, sz (by rw [List.length_take, List.length_drop]; omega), fun c3 nc3 => ?_⟩
    have t3 := Same.new (o := .lst (rv'.take at' ++ rv'.drop (at' + 1))) nc3
    have t13 := t1.trans (t2.trans t3)
    have c3C : c3 ≠ C := (ne_of_none ((t1.trans t2) _ _ hC3) nc3).symm
    have h4c3 : (upd (upd (upd H3 c1 (.lst (rv'.take at'))) c2 (.lst (rv'.drop (at' + 1)))) c3 (.lst (rv'.take at' ++ rv'.drop (at' + 1)))) c3 = _ := upd_same
    generalize upd (upd (upd H3 c1 (.lst (rv'.take at'))) c2 (.lst (rv'.drop (at' + 1)))) c3 (.lst (rv'.take at' ++ rv'.drop (at' + 1))) = H4 at *
    have s04 := s03.trans t13
    have hC4 := t13 _ _ hC3
    have hDa4 := t13 _ _ hDa3
    have hp4 := t13 _ _ hp
    have hdn4 : AllG (ILx C H4) dv s.done := hdn3.mono fun v x h => h.same t13
    have hre4 : AllG (ILx C H4) (rv'.take at' ++ rv'.drop (at' + 1)) (s.rest.take at' ++ s.rest.drop (at' + 1)) := ((hrs3.take at').app (hrs3.drop (at' + 1))).mono fun v x h => h.same t13
    clear hC3 hDa3 hRa3 hdn3 hrs3 hp nc1 nc2 nc3 t1 t2 t3
    -- the rows that are done
    refine ⟨.ref Da, rfl, Da, rfl, ⟨_, SqL.of hDa4⟩, fun L2 nL2 => ?_⟩
    have L2C : L2 ≠ C := (ne_of_none hC4 nL2).symm
    refine lc_list (K := K) (a := Da) (xs := dv) (fun c H5 => Same H4 H5 ∧ ∃ us, H5 L2 = some (.lst us) ∧ AllG (fun v x => ILx C H5 v x ∧ v ≠ .ref L2) us ((s.done.take c).map fun y => clrF y z i s.last)) ⟨Same.new nL2, [], upd_same, AllG.nil⟩ (fun c H3 _ h3 => SqL.of (h3.1 _ _ hDa4)) ?_ ?_
    · rintro c x H5 hx ⟨s5, us, hL5, hus⟩
      obtain ⟨y', hy', q, rfl, qC, hq⟩ := hdn4.at hx
      have yl := lend y' (List.mem_of_getElem? hy')
      have cl' := (List.getElem?_eq_some_iff.mp hx).1
      have ul : us.length ≤ 1000 := by rw [hus.1, List.length_map, List.length_take]; omega
      refine ⟨rfl, tYes_if ?_⟩
      refine ⟨.ref q, rfl, .ref p, rfl, .int (i : Nat), rfl, .int s.last, rfl, .ref q, .ref p, y', z, i, s.last, 8901, rfl, ⟨q, rfl, s5 _ _ hq⟩, ⟨p, rfl, s5 _ _ hp4⟩, by omega, by omega, by omega, l0, l9, bd _ (List.mem_of_getElem? hy'), bz, by decide, by decide, fun r H6 s6 nr hr => ?_⟩
      have hL6 := s6 _ _ hL5
      have rC : r ≠ C := (ne_of_none (s5 _ _ hC4) nr).symm
      have rL : r ≠ L2 := (ne_of_none hL5 nr).symm
      refine ⟨us, hL6, szl (by omega), fun b o e => ?_, us ++ [.ref r], upd_same, ?_⟩
      · rw [upd_ne (ne_of_none e nL2)]
        exact s6 _ _ (s5 _ _ e)
      · rw [List.take_add_one, hy', List.map_append]
        refine AllG.app (hus.mono fun v x h => ?_) (AllG.one ⟨⟨r, rfl, rC, by rw [upd_ne rL]; exact hr⟩, fun z => rL (V.ref.inj z)⟩)
        obtain ⟨⟨a1, rfl, a2, a3⟩, n1⟩ := h
        exact ⟨⟨a1, rfl, a2, by rw [upd_ne (fun z => n1 (by rw [z]))]; exact s6 _ _ a3⟩, n1⟩
    rintro H5 ⟨s5, us, hL5, hus⟩
    rw [dvl, List.take_length] at hus
    have ul : us.length = s.done.length := by rw [hus.1, List.length_map]
    have hC5 := s5 _ _ hC4
    have hp5 := s5 _ _ hp4
    have hc35 := s5 _ _ h4c3
    have hus5 : AllG (ILx C H5) us (s.done.map fun y => clrF y z i s.last) := hus.mono fun v x h => h.1
    have hre5 : AllG (ILx C H5) (rv'.take at' ++ rv'.drop (at' + 1)) (s.rest.take at' ++ s.rest.drop (at' + 1)) := hre4.mono fun v x h => h.same s5
    have s05 := s04.trans s5
    clear hC4 hp4 h4c3 hus hre4 hdn4 hDa4 nL2
    refine ⟨.ref p, rfl, sz (by show 1 ≤ 100000; decide), fun c4 nc4 => ?_⟩
    have t4 := Same.new (o := .lst [.ref p]) nc4
    refine ⟨L2, c4, us, [.ref p], rfl, rfl, t4 _ _ hL5, upd_same, sz (by show us.length + 1 ≤ 100000; omega), fun c5 nc5 => ?_⟩
    have t5 := Same.new (o := .lst (us ++ [.ref p])) nc5
    have t45 := t4.trans t5
    have c5C : c5 ≠ C := (ne_of_none (t4 _ _ hC5) nc5).symm
    have h6c5 : (upd (upd H5 c4 (.lst [.ref p])) c5 (.lst (us ++ [.ref p]))) c5 = _ := upd_same
    generalize upd (upd H5 c4 (.lst [.ref p])) c5 (.lst (us ++ [.ref p])) = H6 at *
    have s06 := s05.trans t45
    have hC6 := t45 _ _ hC5
    have hp6 := t45 _ _ hp5
    have hc36 := t45 _ _ hc35
    have hus6 : AllG (ILx C H6) (us ++ [.ref p]) (s.done.map (fun y => clrF y z i s.last) ++ [z]) := (hus5.mono fun v x h => h.same t45).app (AllG.one ⟨p, rfl, pC, hp6⟩)
    have hre6 : AllG (ILx C H6) (rv'.take at' ++ rv'.drop (at' + 1)) (s.rest.take at' ++ s.rest.drop (at' + 1)) := hre5.mono fun v x h => h.same t45
    clear hC5 hp5 hc35 hus5 hre5 nc4 nc5 t4 t5
    have lenr : ∀ y ∈ s.rest.take at' ++ s.rest.drop (at' + 1), y ∈ s.rest := fun y hy => by
      rcases List.mem_append.mp hy with h | h
      · exact List.mem_of_mem_take h
      · exact List.mem_of_mem_drop h
    have rel : (rv'.take at' ++ rv'.drop (at' + 1)).length = (s.rest.take at' ++ s.rest.drop (at' + 1)).length := hre6.1
    have rem : (s.rest.take at' ++ s.rest.drop (at' + 1)).length ≤ 1000 := by rw [List.length_append, List.length_take, List.length_drop]; omega
    generalize rv'.take at' ++ rv'.drop (at' + 1) = re at *
    generalize s.rest.take at' ++ s.rest.drop (at' + 1) = rl2 at *
    -- the rows that are left
    refine ⟨.ref c3, rfl, c3, rfl, ⟨_, SqL.of hc36⟩, fun L3 nL3 => ?_⟩
    have L3C : L3 ≠ C := (ne_of_none hC6 nL3).symm
    refine lc_list (K := K) (a := c3) (xs := re) (fun c H5 => Same H6 H5 ∧ ∃ us, H5 L3 = some (.lst us) ∧ AllG (fun v x => ILx C H5 v x ∧ v ≠ .ref L3) us ((rl2.take c).map fun y => clrF y z i s.last)) ⟨Same.new nL3, [], upd_same, AllG.nil⟩ (fun c H3 _ h3 => SqL.of (h3.1 _ _ hc36)) ?_ ?_
    · rintro c x H7 hx ⟨s7, vs, hL7, hvs⟩
      obtain ⟨y', hy', q, rfl, qC, hq⟩ := hre6.at hx
      have ym := lenr _ (List.mem_of_getElem? hy')
      have yl := lens y' ym
      have cl' := (List.getElem?_eq_some_iff.mp hx).1
      have vl : vs.length ≤ 1000 := by rw [hvs.1, List.length_map, List.length_take]; omega
      refine ⟨rfl, tYes_if ?_⟩
      refine ⟨.ref q, rfl, .ref p, rfl, .int (i : Nat), rfl, .int s.last, rfl, .ref q, .ref p, y', z, i, s.last, 8901, rfl, ⟨q, rfl, s7 _ _ hq⟩, ⟨p, rfl, s7 _ _ hp6⟩, by omega, by omega, by omega, l0, l9, br _ ym, bz, by decide, by decide, fun r H8 s8 nr hr => ?_⟩
      have hL8 := s8 _ _ hL7
      have rC : r ≠ C := (ne_of_none (s7 _ _ hC6) nr).symm
      have rL : r ≠ L3 := (ne_of_none hL7 nr).symm
      refine ⟨vs, hL8, szl (by omega), fun b o e => ?_, vs ++ [.ref r], upd_same, ?_⟩
      · rw [upd_ne (ne_of_none e nL3)]
        exact s8 _ _ (s7 _ _ e)
      · rw [List.take_add_one, hy', List.map_append]
        refine AllG.app (hvs.mono fun v x h => ?_) (AllG.one ⟨⟨r, rfl, rC, by rw [upd_ne rL]; exact hr⟩, fun z => rL (V.ref.inj z)⟩)
        obtain ⟨⟨a1, rfl, a2, a3⟩, n1⟩ := h
        exact ⟨⟨a1, rfl, a2, by rw [upd_ne (fun z => n1 (by rw [z]))]; exact s8 _ _ a3⟩, n1⟩
    rintro H7 ⟨s7, vs, hL7, hvs⟩
    rw [rel, List.take_length] at hvs
    have hC7 := s7 _ _ hC6
    have hvs7 : AllG (ILx C H7) vs (rl2.map fun y => clrF y z i s.last) := hvs.mono fun v x h => h.1
    have hus7 : AllG (ILx C H7) (us ++ [.ref p]) (s.done.map (fun y => clrF y z i s.last) ++ [z]) := hus6.mono fun v x h => h.same s7
    have hc57 := s7 _ _ h6c5
    refine ⟨.ref p, rfl, .int (i : Nat), rfl, p, z.map V.int, (i : Int), .int (z[i]'(by omega)), rfl, rfl, SqL.of (s7 _ _ hp6), atI_nat (by rw [List.getElem?_map, hzi]; rfl), ?_⟩
    rw [← vec_at hzi]
    refine ⟨.ref C, rfl, .inl ⟨rfl, _, SqL.of hC7⟩, .int (i : Nat), rfl, ?_⟩
    refine ⟨C, _, _, rfl, rfl, hC7, sz (by rw [List.length_map]; omega), ?_⟩
    have DL : c5 ≠ C := c5C
    refine ⟨c5, L3, us ++ [.ref p], vs, _, _, _, rfl, fun b o e => ?_, ?_, ?_, c5C, hus7.mono fun v x h => h.put, ?_, L3C, hvs7.mono fun v x h => h.put⟩
    · rw [upd_ne (ne_of_none e nC)]
      exact s7 _ _ (s06 _ _ e)
    · rw [upd_same, List.map_append]
      rfl
    · rw [upd_ne c5C]
      exact hc57
    · rw [upd_ne L3C]
      exact hL7
end
section
variable {P : Program} {w : World} {K : PySem.W.Frag} {mg : Str → Option Value} {base : Heap} {a : Ad}
def solN (s : Bar.ES) (w : Nat) : Nat → List QQ
  | 0 => List.replicate w (0, 1)
  | i + 1 => (solN s w i).set (Bar.colsOf s.cols i) (red (Bar.rowsOf s.done i w) (Bar.rowsOf s.done i (Bar.colsOf s.cols i)))
theorem solN_len {s : Bar.ES} {w : Nat} : ∀ i, (solN s w i).length = w
  | 0 => List.length_replicate
  | i + 1 => by rw [solN, List.length_set, solN_len i]
def spSolve (K : PySem.W.Frag) : Sp := fun vs H Q _ => ∃ (R : Addr) (rv : List V) (rows : List (List Int)) (w M L : Nat), vs = [.ref R, .int (w : Nat)] ∧ H R = some (.lst rv) ∧ AllG (IL H) rv rows ∧ (∀ x ∈ rows, x.length = w + 1) ∧ rows.length ≤ 1000 ∧ w ≤ 900 ∧ (∀ x ∈ rows, ∀ z ∈ x, z.natAbs ≤ 2 ^ M) ∧ w + 1 ≤ 2 ^ L ∧ (M + L) * (w + 1) ≤ 7900 ∧
  ((∃ y ∈ (Bar.elimN rows w).rest, vec y w ≠ 0) → ∀ H', Same H H' → Q .non H') ∧
  ((∀ y ∈ (Bar.elimN rows w).rest, vec y w = 0) → ∀ (r : Addr) (vs : List V) (H' : Hp), Same H H' → H r = none → H' r = some (.lst vs) → AllG (fun v f => Fr K H' v f.1 f.2) vs (solN (Bar.elimN rows w) w (Bar.elimN rows w).cols.length) → Q (.ref r) H')
def sp_p_solution_of (K : PySem.W.Frag) : Sp := spSolve K

theorem ok_p_solution_of (T : Txt K mg a) : FnOk P w K mg base CX0 3 a.f_p_solution_of a.fd_p_solution_of ["rows", "width"] (sp_p_solution_of K) := by
  have G_p_eliminate := ok_p_eliminate (P := P) (w := w) (base := base) T
  have G_p_fraction := ok_p_fraction (P := P) (w := w) (base := base) T
  obtain ⟨_, v_p_fraction_2, b_p_fraction_2⟩ := T.b_p_fraction_2
  refine T.F_p_solution_of.ok sc_p_solution_of (fun vs H Q E h => ?_) (fun cdv A outer s H vs Q E hr h => ?_)
  · obtain ⟨R, rv, rows, w, M, L, rfl, _⟩ := h
    rfl
  · obtain ⟨R, rv, rows, w, M, L, rfl, hR, hA, hw, rl, w9, hM, hL, hB, w0, w1⟩ := h
    refine ⟨_, (pss_cons (ps_asg (pe_call G_p_eliminate (hr.mono (by first | decide | omega)) (by rfl) T.g_p_eliminate T.F_p_eliminate.kp T.b_p_eliminate .nil pass0 (pa_cons (pv 0) (pa_cons (pv 1) pa_nil))) (pg_tup rfl (pgs_cons (pg_name (i := 2) sc_p_solution_of.nd rfl (by first | exact Or.inl rfl | exact Or.inr rfl)) (pgs_cons (pg_name (i := 3) sc_p_solution_of.nd rfl (by first | exact Or.inl rfl | exact Or.inr rfl)) (pgs_cons (pg_name (i := 4) sc_p_solution_of.nd rfl (by first | exact Or.inl rfl | exact Or.inr rfl)) pgs_nil)))))
          (pss_cons (ps_if (pt_val (pe_callB (cr_any rfl) (by rfl) T.n_any (by decide +kernel) (pa_cons (pe_lc (own := [("row", 7)]) (g := gName 7) rfl sc_p_solution_of.nd (pi_list (pv 4)) (blkOk_by (own := [("row", 7)]) (N := ["rows", "width", "columns", "done", "rest", "values", "column", "row"]) (sc := defScope s_p_solution_of) (by decide +kernel)) (fun _ _ _ _ _ => (pg_name (i := 7) sc_p_solution_of.nd rfl (Or.inl rfl))) (fun _ _ _ _ _ => pts_nil) (fun _ _ _ _ _ => (pe_cmpR op_ne (pe_ix (ixL (K := K) rfl) (pv 7) (pe_un un_neg pe_int) (fun _ _ => rfl)) pe_int (nomark _)))) pa_nil))) (pss_one (ps_ret pe_non)) pss_nil)
          (pss_cons (ps_set (i := 5) sc_p_solution_of.nd rfl (by first | exact Or.inl rfl | exact Or.inr rfl) (pe_op op_rep (pe_lst (pa_cons (pe_glob (v := .ref a.o_ZERO) (by rfl) T.c_ZERO rfl) pa_nil)) (pv 1)))
          (pss_cons (ps_for PassesOwn.never rfl (RZ.pi_zipA (by rfl) T.n_zip (pa_cons (pv 2) (pa_cons (pv 3) pa_nil))) (pg_tup rfl (pgs_cons (pg_name (i := 6) sc_p_solution_of.nd rfl (by first | exact Or.inl rfl | exact Or.inr rfl)) (pgs_cons (pg_name (i := 7) sc_p_solution_of.nd rfl (by first | exact Or.inl rfl | exact Or.inr rfl)) pgs_nil))) (pss_one (ps_asg (pe_call G_p_fraction (hr.mono (by first | decide | omega)) (by rfl) T.g_p_fraction T.F_p_fraction.kp b_p_fraction_2 v_p_fraction_2 pass0 (pa_cons (pe_ix ix_list (pv 7) (pe_un un_neg pe_int) (fun _ _ => rfl)) (pa_cons (pe_ix ix_list (pv 7) (pv 6) (fun _ _ => rfl)) pa_nil))) (pg_sub (pv 5) (pv 6) set_list))))
          (pss_one (ps_ret (pv 5))))))), ?_⟩
    obtain ⟨ps, xs, I⟩ := Bar.elim_inv hw (Nat.le_refl w)
    obtain ⟨b1, b2, b3⟩ := I.bound hM hL
    have pl : (ps ++ xs).length = rows.length := I.perm.length_eq
    rw [List.length_append] at pl
    have lens : ∀ y ∈ (Bar.elimN rows w).rest, y.length = w + 1 := fun y hy => by
      obtain ⟨j, hj, e⟩ := List.getElem_of_mem hy
      obtain ⟨x, _, l, _⟩ := I.rs j y (by rw [List.getElem?_eq_getElem hj, e])
      exact l
    have rl' : (Bar.elimN rows w).rest.length ≤ 1000 := by rw [I.lr]; omega
    refine ⟨.ref R, rfl, .int (w : Nat), rfl, R, rv, rows, w, M, L, rfl, hR, hA, hw, rl, w9, hM, hL, by omega, fun t C D R' dv rv' H1 s1 ht nC hC hD hdn hR' hrs => ?_⟩
    refine ⟨t, _, rfl, ht, rfl, _, _, rfl, _, _, rfl, _, _, rfl, rfl, ?_⟩
    have rvl : rv'.length = (Bar.elimN rows w).rest.length := hrs.1
    -- the last column
    refine ⟨.ref R', rfl, R', rfl, ⟨_, SqL.of hR'⟩, fun L1 nL1 => ?_⟩
    refine lc_list (K := K) (a := R') (xs := rv') (fun c H3 => Same H1 H3 ∧ H3 L1 = some (.lst ((((Bar.elimN rows w).rest.take c).map fun y => !decide (V.int (vec y w) = V.int 0)).map V.bl))) ⟨Same.new nL1, upd_same⟩ (fun c H3 _ h3 => SqL.of (h3.1 _ _ hR')) ?_ ?_
    · rintro c x H3 hx ⟨s3, hL3⟩
      obtain ⟨z, hz, p, rfl, hp⟩ := hrs.at hx
      have zl := lens z (List.mem_of_getElem? hz)
      have hzw : z[w]? = some (z[w]'(by omega)) := List.getElem?_eq_getElem _
      have cl' := (List.getElem?_eq_some_iff.mp hx).1
      refine ⟨rfl, tYes_if ?_⟩
      refine ⟨.ref p, rfl, 1, rfl, p, z.map V.int, -1, .int (z[w]'(by omega)), rfl, rfl, SqL.of (s3 _ _ hp), atI_end (n := w) (by rw [List.length_map]; exact zl) (by rw [List.getElem?_map, hzw]; rfl), rfl, ?_⟩
      refine ⟨_, hL3, szl (by rw [List.length_map, List.length_map, List.length_take]; omega), fun b o e => ?_, ?_⟩
      · rw [upd_ne (ne_of_none e nL1)]
        exact s3 _ _ e
      · rw [upd_same, List.take_add_one, hz, List.map_append, List.map_append, ← vec_at hzw]
        rfl
    rintro H2 ⟨s2, hL1⟩
    rw [rvl, List.take_length] at hL1
    have s02 := s1.trans s2
    refine ⟨L1, _, rfl, SqL.of hL1, ?_⟩
    by_cases hb : ∃ y ∈ (Bar.elimN rows w).rest, vec y w ≠ 0
    · refine ⟨_, rfl, ifT ?_ ?_⟩
      · obtain ⟨y, hy, ny⟩ := hb
        rw [List.any_eq_true]
        exact ⟨_, List.mem_map.mpr ⟨y, hy, rfl⟩, by simp only [id, Bool.not_eq_true', decide_eq_false_iff_not]; exact fun z => ny (V.int.inj z)⟩
      · exact w0 hb _ s02
    have hz : ∀ y ∈ (Bar.elimN rows w).rest, vec y w = 0 := fun y hy => Classical.byContradiction fun n => hb ⟨y, hy, n⟩
    replace w1 := w1 hz
    refine ⟨_, rfl, ifF ?_ ?_⟩
    · rw [List.any_eq_false]
      intro b hb2
      obtain ⟨y, hy, rfl⟩ := List.mem_map.mp hb2
      rw [hz y hy]
      decide
    clear hb hz w0 hL1 hR' hrs rvl
    have hC2 := s2 _ _ hC
    have hD2 := s2 _ _ hD
    have hdn2 : AllG (IL H2) dv (Bar.elimN rows w).done := hdn.mono fun v x h => h.same s2
    have cll : (Bar.elimN rows w).cols.length = (Bar.elimN rows w).done.length := I.lc.trans I.ld.symm
    have kw : (Bar.elimN rows w).done.length ≤ w := by rw [I.ld]; exact I.kc
    have hG : ∀ (j : Nat) y, (Bar.elimN rows w).done[j]? = some y → y.length = w + 1 ∧ Bar.colsOf (Bar.elimN rows w).cols j < w ∧ vec y (Bar.colsOf (Bar.elimN rows w).cols j) ≠ 0 ∧ (vec y (Bar.colsOf (Bar.elimN rows w).cols j)).natAbs < 2 ^ 8000 := fun j y hy => by
      obtain ⟨yl, yG⟩ := I.dn j y hy
      have jl : j < ps.length := by rw [← I.ld]; exact (List.getElem?_eq_some_iff.mp hy).1
      have cw := I.lt j jl
      refine ⟨yl, cw, ?_, ?_⟩
      · rw [yG _ (by omega), Bar.G_at (Bar.crams I.nz) jl, if_pos rfl]
        exact I.nz _ (Nat.le_refl _)
      · have hm : vec y (Bar.colsOf (Bar.elimN rows w).cols j) ∈ y := by
          have e : y[Bar.colsOf (Bar.elimN rows w).cols j]? = some (y[Bar.colsOf (Bar.elimN rows w).cols j]'(by omega)) := List.getElem?_eq_getElem _
          rw [vec_at e]
          exact List.getElem_mem _
        have lim : 2 ^ ((M + L) * (w + 1)) < 2 ^ 8000 := Nat.pow_lt_pow_right (by decide) (by omega)
        exact Nat.lt_of_le_of_lt (b1 y (List.mem_of_getElem? hy) _ hm) lim
    clear I pl b1 b2 b3 rl' lens hw hM hL hA hR
    generalize Bar.elimN rows w = s at *
    have dvl : dv.length = s.done.length := hdn2.1
    refine ⟨sz (by show 1 ≤ 100000; decide), fun c0 nc0 => ?_⟩
    have t1 := Same.new (o := .lst [.ref a.o_ZERO]) nc0
    refine ⟨.int (w : Nat), rfl, c0, (w : Int), [.ref a.o_ZERO], rfl, rfl, upd_same, by omega, by omega, sz (by show 1 * ((w : Nat) : Int).toNat ≤ 100000; omega), fun V0 nV0 => ?_⟩
    have hV0 : (List.replicate ((w : Nat) : Int).toNat [V.ref a.o_ZERO]).flatten = List.replicate w (V.ref a.o_ZERO) := by
      rw [Int.toNat_natCast]
      clear kw w1 hG w9 hB
      induction w with
      | zero => rfl
      | succ n ih => rw [List.replicate_succ, List.flatten_cons, ih, List.replicate_succ]; rfl
    rw [hV0]
    have nV1 : H2 V0 = none := by
      cases e : H2 V0 with
      | none => rfl
      | some o =>
        have := t1 _ _ e
        rw [nV0] at this
        cases this
    have sV := t1.trans (Same.new (o := .lst (List.replicate w (.ref a.o_ZERO))) nV0)
    refine ⟨.ref C, rfl, .ref D, rfl, C, D, s.cols.map (fun c => V.int ((c : Nat) : Int)), dv, rfl, .inl ⟨SqL.of (sV _ _ hC2), SqL.of (sV _ _ hD2), ?_⟩⟩
    refine ⟨fun j m σ H3 => ∃ (vs : List V) (y6 y7 : Option V), j + m = s.cols.length ∧ σ = [some (.ref R), some (.int (w : Nat)), some (.ref C), some (.ref D), some (.ref R'), some (.ref V0), y6, y7] ∧ Same H2 H3 ∧ H3 V0 = some (.lst vs) ∧ AllG (fun v f => Fr K H3 v f.1 f.2) vs (solN s w j),
      ⟨s.cols.length, List.replicate w (.ref a.o_ZERO), none, none, by omega, rfl, sV, upd_same, ⟨by rw [solN_len, List.length_replicate], fun n x f hx hf => ?_⟩⟩, fun j m σ H3 hW => ?_⟩
    · rw [List.getElem?_replicate] at hx
      split at hx
      · cases hx
        rename_i hn
        have hf' : (List.replicate w ((0 : Int), (1 : Int)))[n]? = some f := hf
        rw [List.getElem?_replicate, if_pos hn] at hf'
        cases hf'
        exact ⟨_, rfl, T.t_ZERO _⟩
      · cases hx
    obtain ⟨vs, y6, y7, em, rfl, s3, hV, hvs⟩ := hW
    have hC3 := s3 _ _ hC2
    have hD3 := s3 _ _ hD2
    by_cases hj : j < s.cols.length
    rotate_left
    · have ej : j = s.cols.length := by omega
      subst ej
      refine .inl ⟨⟨_, _, SqL.of hC3, SqL.of hD3, .inl (by rw [List.length_map]; exact Nat.le_refl _)⟩, ?_⟩
      refine ⟨.ref V0, rfl, w1 V0 vs H3 (s02.trans s3) ?_ hV hvs⟩
      cases e : H V0 with
      | none => rfl
      | some o =>
        have := s02 _ _ e
        rw [nV1] at this
        cases this
    have hcj : s.cols[j]? = some (s.cols[j]'hj) := List.getElem?_eq_getElem hj
    have hyj : s.done[j]? = some (s.done[j]'(by omega)) := List.getElem?_eq_getElem _
    obtain ⟨v, hv⟩ : ∃ v, dv[j]? = some v := ⟨_, List.getElem?_eq_getElem (by omega)⟩
    refine .inr ⟨⟨_, _, .int ((s.cols[j]'hj : Nat) : Int), v, SqL.of hC3, SqL.of hD3, by rw [List.getElem?_map, hcj]; rfl, hv⟩, fun σ' H3 => ∃ (vs : List V) (y6 y7 : Option V), σ' = [some (.ref R), some (.int (w : Nat)), some (.ref C), some (.ref D), some (.ref R'), some (.ref V0), y6, y7] ∧ Same H2 H3 ∧ H3 V0 = some (.lst vs) ∧ AllG (fun v f => Fr K H3 v f.1 f.2) vs (solN s w (j + 1)), fun σ' H' hN => ?_, fun x H4 hy => ?_⟩
    · obtain ⟨vs, y6, y7, e⟩ := hN
      exact ⟨m - 1, by omega, vs, y6, y7, by omega, e⟩
    obtain ⟨tt, u1, u2, rfl, nT, rfl, f1, f2⟩ := hy
    have h1 := f1 _ (SqL.of hC3)
    have h2 := f2 _ (SqL.of hD3)
    rw [List.getElem?_map, hcj] at h1
    rw [hv] at h2
    cases h1
    cases h2
    obtain ⟨yl, cw, d0, dB⟩ := hG j _ hyj
    have ec : Bar.colsOf s.cols j = s.cols[j]'hj := Bar.getD_of hcj
    have er : Bar.rowsOf s.done j = vec (s.done[j]'(by omega)) := by
      unfold Bar.rowsOf
      rw [Bar.getD_of hyj]
    obtain ⟨q, rfl, hq⟩ := hdn2.2 _ _ _ hv hyj
    have eS : solN s w (j + 1) = (solN s w j).set (s.cols[j]'hj) (red (vec (s.done[j]'(by omega)) w) (vec (s.done[j]'(by omega)) (s.cols[j]'hj))) := by
      show (solN s w j).set (Bar.colsOf s.cols j) (red (Bar.rowsOf s.done j w) (Bar.rowsOf s.done j (Bar.colsOf s.cols j))) = _
      rw [ec, er]
    rw [eS]
    rw [ec] at cw d0 dB
    generalize s.cols[j]'hj = c at *
    generalize s.done[j]'(by omega) = y at *
    have st := Same.new (o := .tup [.int ((c : Nat) : Int), .ref q]) nT
    have sq := s3.trans st
    have hyw : y[w]? = some (y[w]'(by omega)) := List.getElem?_eq_getElem _
    have hyc : y[c]? = some (y[c]'(by omega)) := List.getElem?_eq_getElem _
    refine ⟨tt, _, rfl, SqT.of upd_same, rfl, _, _, rfl, _, _, rfl, rfl, ?_⟩
    refine ⟨.ref q, rfl, 1, rfl, q, y.map V.int, -1, .int (y[w]'(by omega)), rfl, rfl, SqL.of (sq _ _ hq), atI_end (n := w) (by rw [List.length_map]; exact yl) (by rw [List.getElem?_map, hyw]; rfl), .ref q, rfl, .int ((c : Nat) : Int), rfl, q, y.map V.int, (c : Int), .int (y[c]'(by omega)), rfl, rfl, SqL.of (sq _ _ hq), atI_nat (by rw [List.getElem?_map, hyc]; rfl), ?_⟩
    rw [← vec_at hyw, ← vec_at hyc]
    refine ⟨_, _, rfl, d0, dB, fun p np => ?_⟩
    have sp := Same.new (o := .tup [.int (red (vec y w) (vec y c)).1, .int (red (vec y w) (vec y c)).2]) np
    have hVt := st _ _ hV
    have hVp := sp _ _ hVt
    have vl : vs.length = w := by rw [hvs.1, solN_len]
    refine ⟨.ref V0, rfl, .int ((c : Nat) : Int), rfl, V0, vs, (c : Int), c, rfl, rfl, hVp, ?_, ?_⟩
    · exact ixN_nat rfl (by omega)
    refine ⟨vs.set c (.ref p), _, _, rfl, fun b o e => ?_, upd_same, ?_⟩
    · rw [upd_ne (ne_of_none e nV1)]
      exact sp _ _ (st _ _ (s3 _ _ e))
    · refine ⟨by rw [List.length_set, List.length_set]; exact hvs.1, fun n x f hx hf => ?_⟩
      have put : ∀ {v : V} {n d : Int}, Fr K (upd (upd H3 tt (.tup [.int ((c : Nat) : Int), .ref q])) p (.tup [.int (red (vec y w) (vec y c)).1, .int (red (vec y w) (vec y c)).2])) v n d → ∀ l, Fr K (upd (upd (upd H3 tt (.tup [.int ((c : Nat) : Int), .ref q])) p (.tup [.int (red (vec y w) (vec y c)).1, .int (red (vec y w) (vec y c)).2])) V0 (.lst l)) v n d := fun ⟨q1, e1, z1⟩ l => ⟨q1, e1, sqPut z1 hVp⟩
      rw [List.getElem?_set] at hx hf
      by_cases g : c = n
      · rw [if_pos g] at hx hf
        rw [if_pos (by omega)] at hx
        rw [if_pos (by rw [solN_len]; omega)] at hf
        cases hx
        cases hf
        exact put Fr.new _
      · rw [if_neg g] at hx hf
        exact put ((hvs.2 n x f hx hf).same (st.trans sp)) _
end
section
variable {P : Program} {w : World} {K : PySem.W.Frag} {mg : Str → Option Value} {base : Heap} {a : Ad}
theorem AllG.pick {α β : Type} {R : V → α → β → Prop} : ∀ {vs : List V} {ps : List α}, AllG (fun v p => ∃ z, R v p z) vs ps → ∃ zs : List β, zs.length = ps.length ∧ ∀ (i : Nat) v p z, vs[i]? = some v → ps[i]? = some p → zs[i]? = some z → R v p z
  | [], [], _ => ⟨[], rfl, fun i v p z h => by cases h⟩
  | [], _ :: _, h => by have := h.1; cases this
  | _ :: _, [], h => by have := h.1; cases this
  | v :: vs, p :: ps, h => by
    obtain ⟨z, hz⟩ := h.2 0 v p rfl rfl
    have h' : AllG (fun v p => ∃ z, R v p z) vs ps := ⟨by have := h.1; simpa using this, fun i x t a b => h.2 (i + 1) x t a b⟩
    obtain ⟨zs, l, k⟩ := h'.pick
    refine ⟨z :: zs, by rw [List.length_cons, List.length_cons, l], fun i v' p' z' a b c => ?_⟩
    cases i with
    | zero => cases a; cases b; cases c; exact hz
    | succ i => exact k i v' p' z' a b c
theorem solN_mem {s : Bar.ES} {w : Nat} : ∀ {i : Nat} {f : QQ}, f ∈ solN s w i → f = (0, 1) ∨ ∃ m, m < i ∧ f = red (Bar.rowsOf s.done m w) (Bar.rowsOf s.done m (Bar.colsOf s.cols m))
  | 0, f, h => .inl (List.eq_of_mem_replicate h)
  | i + 1, f, h => by
    rcases List.mem_or_eq_of_mem_set h with h | h
    · rcases solN_mem h with e | ⟨m, hm, e⟩
      · exact .inl e
      · exact .inr ⟨m, by omega, e⟩
    · exact .inr ⟨i, by omega, h⟩
theorem solN_val {s : Bar.ES} {w : Nat} : ∀ {i : Nat}, (∀ m, m < i → Bar.rowsOf s.done m (Bar.colsOf s.cols m) ≠ 0) → (solN s w i).map toR = Bar.valN s w i
  | 0, _ => by
    show (List.replicate w ((0 : Int), (1 : Int))).map toR = List.replicate w 0
    rw [List.map_replicate]
    rfl
  | i + 1, h => by
    rw [solN, List.map_set, solN_val fun m hm => h m (by omega), toR_red (h i (by omega))]
    rfl
/-- the values in memory -/
theorem sol_frs {K : PySem.W.Frag} {H : Hp} {vs : List V} {rows : List (List Int)} {w : Nat} {s : Bar.ES} {ps xs : List (List Int)} {C : Nat} (I : Bar.EInv rows w w s ps xs) (hd : ∀ y ∈ s.done, ∀ z ∈ y, z.natAbs ≤ 2 ^ C) (h : AllG (fun v (f : QQ) => Fr K H v f.1 f.2) vs (solN s w s.cols.length)) :
    FRs K H vs (Bar.valN s w ps.length) (C + 1) ∧ ∀ q ∈ Bar.valN s w ps.length, (q.den : Int) ∣ s.last := by
  have piv : ∀ m, m < ps.length → Bar.rowsOf s.done m (Bar.colsOf s.cols m) = s.last ∧ s.last ≠ 0 := fun m hm => I.piv hm
  have lowd : ∀ f ∈ solN s w s.cols.length, Low f ∧ f.1.natAbs < 2 ^ (C + 1) ∧ f.2.natAbs < 2 ^ (C + 1) ∧ f.2 ∣ s.last := fun f hf => by
    have up : 2 ^ C < 2 ^ (C + 1) := Nat.pow_lt_pow_right (by decide) (by omega)
    rcases solN_mem hf with rfl | ⟨m, hm, rfl⟩
    · exact ⟨⟨by decide, by decide⟩, Nat.pos_of_ne_zero (by have := Nat.pow_pos (n := C + 1) (show 0 < 2 by decide); omega), Nat.lt_of_lt_of_le (show 1 < 2 ^ 1 by decide) (Nat.pow_le_pow_right (by decide) (by omega)), Int.one_dvd _⟩
    · rw [I.lc] at hm
      obtain ⟨e, n0⟩ := piv m hm
      have hm2 : m < s.done.length := by rw [I.ld]; exact hm
      have hmd : s.done[m]? = some (s.done[m]'hm2) := List.getElem?_eq_getElem hm2
      have bd : ∀ j, (Bar.rowsOf s.done m j).natAbs ≤ 2 ^ C := fun j => by
        unfold Bar.rowsOf
        rw [Bar.getD_of hmd]
        exact Bar.vec_bound (hd _ (List.getElem_mem _)) j
      have n1 : Bar.rowsOf s.done m (Bar.colsOf s.cols m) ≠ 0 := by rw [e]; exact n0
      refine ⟨⟨red_pos n1, red_gcd n1⟩, Nat.lt_of_le_of_lt (red_le1 n1) (Nat.lt_of_le_of_lt (bd _) up), Nat.lt_of_le_of_lt (red_le2 n1) (Nat.lt_of_le_of_lt (bd _) up), ?_⟩
      have := red_dvd (n := Bar.rowsOf s.done m w) n1
      rwa [e] at this ⊢
  have ev : Bar.valN s w ps.length = (solN s w s.cols.length).map toR := by
    rw [← I.lc]
    refine (solN_val fun m hm => ?_).symm
    rw [I.lc] at hm
    rw [(piv m hm).1]
    exact (piv m hm).2
  rw [ev]
  refine ⟨⟨by rw [List.length_map, List.length_map, h.1], fun i x f a b => ?_⟩, fun q hq => ?_⟩
  · rw [List.getElem?_map, List.getElem?_map] at b
    cases e : (solN s w s.cols.length)[i]? with
    | none => rw [e] at b; cases b
    | some g =>
      rw [e] at b
      obtain ⟨lw, b1, b2, _⟩ := lowd g (List.mem_of_getElem? e)
      have b' : ofR (toR g) = f := Option.some.inj b
      rw [ofR_toR lw] at b'
      subst b'
      exact ⟨h.2 i x g a e, lw.1, lw.2, b1, b2⟩
  · obtain ⟨g, hg, rfl⟩ := List.mem_map.mp hq
    obtain ⟨lw, _, _, d⟩ := lowd g hg
    have e : ((toR g).den : Int) = g.2 := congrArg Prod.snd (ofR_toR lw)
    rw [e]
    exact d

def spSolveL (K : PySem.W.Frag) : Sp := fun vs H Q _ => ∃ (tb tq ty : Bool) (R y : Addr) (rv : List (List V)) (ys : List V) (rq : List (List Rat)) (ts : List Rat) (w B G L N : Nat) (P : Int), vs = [.ref R, .ref y] ∧ EqsAt tb tq ty K H R y rv ys rq ts w B G P ∧ (ty = tq ∨ tq = false ∧ ty = true) ∧ w + 1 ≤ 2 ^ L ∧ rv.length + 1 ≤ 2 ^ L ∧ (B + G + L) * (w + 1) ≤ N ∧ (B + G + L) * (rv.length + 1) ≤ N ∧ N ≤ 7900 ∧
  ∀ (r v : Addr) (kind : Str) (xs : List V) (qs : List Rat) (E : Int) (H' : Hp), Same H H' → H r = none → SqT K H' r [.str kind, .ref v] → H v = none → H' v = some (.lst xs) → r ≠ v → FRs K H' xs qs (N + 1) → E ≠ 0 → (∀ q ∈ qs, (q.den : Int) ∣ E) → E.natAbs ≤ 2 ^ N → (kind = "solution" ∧ solOk rq ts qs w = true ∨ kind = "certificate" ∧ certOk rq ts qs w = true) → (kind, qs) = solveQ rq ts w → Q (.ref r) H'
def sp_p_solve_linear (K : PySem.W.Frag) : Sp := spSolveL K

theorem ok_p_solve_linear (T : Txt K mg a) : FnOk P w K mg base CX0 5 a.f_p_solve_linear a.fd_p_solve_linear ["rows", "targets"] (sp_p_solve_linear K) := by
  have G_p_check_shape := ok_p_check_shape (P := P) (w := w) (base := base) T
  have G_p_columns_of := ok_p_columns_of (P := P) (w := w) (base := base) T
  have G_p_solution_of := ok_p_solution_of (P := P) (w := w) (base := base) T
  have G_p_as_integers := ok_p_as_integers (P := P) (w := w) (base := base) T
  refine T.F_p_solve_linear.ok sc_p_solve_linear (fun vs H Q E h => ?_) (fun cdv A outer s H vs Q E hr h => ?_)
  · obtain ⟨tb, tq, ty, R, y, rv, ys, rq, ts, w, B, G, L, N, P, rfl, _⟩ := h
    rfl
  · obtain ⟨tb, tq, ty, R, y, rv, ys, rq, ts, w, B, G, L, N, P, rfl, hE, tty, wL, rL, wN, rN, N9, fin⟩ := h
    refine ⟨_, (pss_cons (ps_expr (pe_call G_p_check_shape (hr.mono (by first | decide | omega)) (by rfl) T.g_p_check_shape T.F_p_check_shape.kp T.b_p_check_shape .nil pass0 (pa_cons (pv 0) (pa_cons (pv 1) pa_nil))))
          (pss_cons (ps_set (i := 2) sc_p_solve_linear.nd rfl (by first | exact Or.inl rfl | exact Or.inr rfl) (pe_call G_p_columns_of (hr.mono (by first | decide | omega)) (by rfl) T.g_p_columns_of T.F_p_columns_of.kp T.b_p_columns_of .nil pass0 (pa_cons (pv 0) pa_nil)))
          (pss_cons (ps_set (i := 3) sc_p_solve_linear.nd rfl (by first | exact Or.inl rfl | exact Or.inr rfl) (pe_call G_p_solution_of (hr.mono (by first | decide | omega)) (by rfl) T.g_p_solution_of T.F_p_solution_of.kp T.b_p_solution_of .nil pass0 (pa_cons (pe_lc (own := [("row", 5), ("target", 6)]) (g := gTup K 2 (gCons (gName 5) (gCons (gName 6) gNil))) rfl sc_p_solve_linear.nd (EnT.pi_or (RZ.pi_zipA (by rfl) T.n_zip (pa_cons (pv 0) (pa_cons (pv 1) pa_nil))) (ZpL.pi_zl (by rfl) T.n_zip (pa_cons (pv 0) (pa_cons (pv 1) pa_nil)))) (blkOk_by (own := [("row", 5), ("target", 6)]) (N := ["rows", "targets", "columns", "values", "cancelled", "row", "target", "column"]) (sc := defScope s_p_solve_linear) (by decide +kernel)) (fun _ _ _ _ _ => (pg_tup rfl (pgs_cons (pg_name (i := 5) sc_p_solve_linear.nd rfl (Or.inl rfl)) (pgs_cons (pg_name (i := 6) sc_p_solve_linear.nd rfl (Or.inl rfl)) pgs_nil)))) (fun _ _ _ _ _ => pts_nil) (fun _ _ _ _ _ => (pe_call G_p_as_integers (hr.mono (by first | decide | omega)) (by rfl) T.g_p_as_integers T.F_p_as_integers.kp T.b_p_as_integers .nil pass0 (pa_cons (pe_lst (paStarK (K := K) rfl (pv 5) (pa_cons (pv 6) pa_nil))) pa_nil)))) (pa_cons (pe_callB call_len (by rfl) T.n_len (by decide +kernel) (pa_cons (pv 2) pa_nil)) pa_nil))))
          (pss_cons (ps_if (pt_cmpR op_notN (pv 3) pe_non (nomark _)) (pss_one (ps_ret (pe_tup (pa_cons pe_str (pa_cons (pv 3) pa_nil))))) pss_nil)
          (pss_cons (ps_setLc (i := 4) (own := [("column", 7)]) (g := gName 7) rfl sc_p_solve_linear.nd rfl rfl (sw_true rfl rfl rfl (by decide +kernel)) (pi_list (pv 2)) (blkOk_by (own := [("column", 7)]) (N := ["rows", "targets", "columns", "values", "cancelled", "row", "target", "column"]) (sc := defScope s_p_solve_linear) (by decide +kernel)) (fun _ _ _ _ _ => (pg_name (i := 7) sc_p_solve_linear.nd rfl (Or.inl rfl))) (fun _ _ _ _ _ => pts_nil) (fun _ _ _ _ _ => (pe_call G_p_as_integers (hr.mono (by first | decide | omega)) (by rfl) T.g_p_as_integers T.F_p_as_integers.kp T.b_p_as_integers .nil pass0 (pa_cons (pe_lst (paStarK (K := K) rfl (pv 7) (pa_cons (pe_glob (v := .ref a.o_ZERO) (by rfl) T.c_ZERO rfl) pa_nil))) pa_nil))))
          (pss_one (ps_ret (pe_tup (pa_cons pe_str (pa_cons (pe_call G_p_solution_of (hr.mono (by first | decide | omega)) (by rfl) T.g_p_solution_of T.F_p_solution_of.kp T.b_p_solution_of .nil pass0 (pa_cons (pe_lst (StX.pa_star (pv 4) (pa_cons (pe_call G_p_as_integers (hr.mono (by first | decide | omega)) (by rfl) T.g_p_as_integers T.F_p_as_integers.kp T.b_p_as_integers .nil pass0 (pa_cons (pe_lst (StX.pa_star (pv 1) (pa_cons (pe_tup (pa_cons pe_int (pa_cons pe_int pa_nil))) pa_nil))) pa_nil)) pa_nil))) (pa_cons (pe_callB call_len (by rfl) T.n_len (by decide +kernel) (pa_cons (pv 0) pa_nil)) pa_nil))) pa_nil)))))))))), ?_⟩
    refine ⟨.ref R, rfl, .ref y, rfl, tb, R, y, rv, ys, w, rfl, hE.at, hE.wl, by have := hE.rl; omega, by have := hE.w9; omega, zsq_or hE.tgt, hE.yl, fun H1 s1 => ?_⟩
    have hE1 := hE.same s1
    refine ⟨.ref R, rfl, tb, R, rv, w, rfl, hE1.at, hE.wl, hE.r0, by have := hE.rl; omega, by have := hE.w9; omega, fun C cs H2 s2 nC hC hcs => ?_⟩
    have hE2 := hE1.same s2
    obtain ⟨ls, hR, ll, hls⟩ := hE2.rows
    have hT := hE2.tgt
    have qlen : ∀ (i : Nat) q, rq[i]? = some q → q.length = w := fun i q e => by
      have il : i < rv.length := by rw [← hE.ql]; exact (List.getElem?_eq_some_iff.mp e).1
      have e2 : rv[i]? = some (rv[i]'il) := List.getElem?_eq_getElem il
      rw [← (hE.fr i _ _ e2 e).len]
      exact hE.wl _ (List.getElem_mem _)
    have tlen : ts.length = rq.length := by rw [hE.ql, ← hE.yl]; exact hE.ft.len.symm
    have s02 := s1.trans s2
    have zl : (rq.zip ts).length = (ls.map V.ref).length := by rw [List.length_zip, List.length_map, tlen, hE.ql, ll, Nat.min_self]
    obtain ⟨eqs, heqs⟩ : ∃ e, e = (rq.zip ts).map fun p => p.1 ++ [p.2] := ⟨_, rfl⟩
    have eql : eqs.length = (ls.map V.ref).length := by rw [heqs, List.length_map, zl]
    have three : (tq = false ∧ ty = false) ∨ (tq = true ∧ ty = true) ∨ (tq = false ∧ ty = true) := by
      rcases tty with h | ⟨h1, h2⟩
      · rw [h]
        cases tq
        · exact .inl ⟨rfl, rfl⟩
        · exact .inr (.inl ⟨rfl, rfl⟩)
      · exact .inr (.inr ⟨h1, h2⟩)
    rcases three with ⟨rfl, rfl⟩ | ⟨rfl, rfl⟩ | ⟨rfl, rfl⟩
    case' inl =>
      refine .inl ⟨.ref R, rfl, .ref y, rfl, R, y, ls.map V.ref, ys, rfl, .inl ⟨hR, hT, ?_⟩⟩
      have hJ := zpIt_l (K := K) (show SqL K H2 R (ls.map V.ref) from hR) hT
    case' inr.inl =>
      refine .inl ⟨.ref R, rfl, .ref y, rfl, R, y, ls.map V.ref, ys, rfl, .inr ⟨hR, hT, ?_⟩⟩
      have hJ := zpIt_t (K := K) (show SqT K H2 R (ls.map V.ref) from hR) hT
    case' inr.inr =>
      refine .inr ⟨.ref R, rfl, .ref y, rfl, R, y, ls.map V.ref, ys, rfl, hR, hT, ?_⟩
      have hJ := zpIt_lt (K := K) (show SqL K H2 R (ls.map V.ref) from hR) hT (by rw [List.length_map, ll, hE.yl])
    all_goals intro D nD
    all_goals
      refine lc_zp hJ (by rw [List.length_map, ll, hE.yl]) (fun i H5 => Same H2 H5 ∧ ∃ vs, H5 D = some (.lst vs) ∧ AllG (fun v p => ∃ z, ILx D H5 v z ∧ (∃ k : Int, 0 < k ∧ Sc (k : Rat) z p) ∧ (∀ u ∈ z, u.natAbs ≤ 2 ^ (B + G)) ∧ z = intsQ p) vs (eqs.take i)) ⟨Same.new nD, [], upd_same, AllG.nil⟩ (fun i H5 _ h => h.1) ?_ ?_
      · rintro i x yv t H5 hx hyv nt ⟨s5, vs, hD, hvs⟩
        rw [List.getElem?_map] at hx
        cases e2 : ls[i]? with
        | none => rw [e2] at hx; cases hx
        | some l =>
          rw [e2] at hx
          cases hx
          have il : i < ls.length := (List.getElem?_eq_some_iff.mp e2).1
          have ir : rv[i]? = some (rv[i]'(by omega)) := List.getElem?_eq_getElem _
          have iq : rq[i]? = some (rq[i]'(by have := hE.ql; omega)) := List.getElem?_eq_getElem _
          have it : ts[i]? = some (ts[i]'(by have := hE.ql; omega)) := List.getElem?_eq_getElem _
          have hl := hls i l _ e2 ir
          have hf := hE2.fr i _ _ ir iq
          have ht := hE2.ft.at hyv it
          have wl := hE.wl _ (List.mem_of_getElem? ir)
          have pr := hE.pr _ (List.mem_of_getElem? iq)
          have pt := hE.pt _ (List.mem_of_getElem? it)
          have iz : (rq.zip ts)[i]? = some (rq[i]'(by have := hE.ql; omega), ts[i]'(by have := hE.ql; omega)) := List.getElem?_zip_eq_some.mpr ⟨iq, it⟩
          have ie : eqs[i]? = some (rq[i]'(by have := hE.ql; omega) ++ [ts[i]'(by have := hE.ql; omega)]) := by rw [heqs, List.getElem?_map, iz]; rfl
          generalize rv[i]'(by omega) = row at *
          generalize rq[i]'(by have := hE.ql; omega) = rqi at *
          generalize ts[i]'(by have := hE.ql; omega) = ti at *
          have st := Same.new (o := .tup [.ref l, yv]) nt
          have s5t := s5.trans st
          refine ⟨t, _, rfl, SqT.of upd_same, rfl, _, _, rfl, _, _, rfl, rfl, rfl, tYes_if ?_⟩
          refine ⟨.ref l, rfl, l, row, rfl, zsq_or (zsq_same hl s5t), yv, rfl, sz (by show (row ++ [yv]).length ≤ 100000; rw [List.length_append]; show row.length + 1 ≤ _; have := hE.w9; omega), fun q nq => ?_⟩
          have sq := Same.new (o := .lst (row ++ [yv])) nq
          have s5q := s5t.trans sq
          have hrow : FRs K (upd (upd H5 t (.tup [.ref l, yv])) q (.lst (row ++ [yv]))) (row ++ [yv]) (rqi ++ [ti]) B := FRs.snoc (hf.mv s5q) (ht.same s5q)
          refine ⟨q, row ++ [yv], rqi ++ [ti], B, G, P, rfl, .inr (SqL.of upd_same), hrow, hE.B0, hE.B8, hE.P0, fun u hu => ?_, hE.pB, hE.G8, by rw [List.length_append]; show row.length + 1 ≤ _; have := hE.w9; omega, fun r z k H8 s8 nr hr k0 kB hS hZ hQ => ?_⟩
          · rcases List.mem_append.mp hu with h | h
            · exact pr u h
            · rw [List.mem_singleton.mp h]
              exact pt
          have s58 := st.trans (sq.trans s8)
          have hD8 := s58 _ _ hD
          have rD : r ≠ D := (ne_of_none (sq _ _ (st _ _ hD)) nr).symm
          have vl : vs.length = i := by rw [hvs.1, List.length_take, eql, List.length_map]; omega
          refine ⟨_, hD8, szl (by rw [vl]; have := hE.rl; omega), fun b o e => ?_, vs ++ [.ref r], upd_same, ?_⟩
          · rw [upd_ne (ne_of_none e nD)]
            exact s58 _ _ (s5 _ _ e)
          · rw [List.take_add_one, ie]
            refine AllG.app (hvs.mono fun v p h => ?_) (AllG.one ⟨z, ⟨r, rfl, rD, by rw [upd_ne rD]; exact hr⟩, ⟨k, k0, hS⟩, hZ, hQ⟩)
            obtain ⟨z', h1, h2, h3, h4⟩ := h
            exact ⟨z', (h1.same s58).put, h2, h3, h4⟩
      rintro H5 ⟨s5, vs, hD, hvs⟩
      rw [List.take_of_length_le (by omega)] at hvs
      obtain ⟨zs, zsl, hzs⟩ := hvs.pick
      -- the rows in integers
      have zat : ∀ (i : Nat) z, zs[i]? = some z → ∃ v p, vs[i]? = some v ∧ eqs[i]? = some p ∧ ILx D H5 v z ∧ (∃ k : Int, 0 < k ∧ Sc (k : Rat) z p) ∧ (∀ u ∈ z, u.natAbs ≤ 2 ^ (B + G)) ∧ z = intsQ p := fun i z e => by
        have il := (List.getElem?_eq_some_iff.mp e).1
        have e1 : vs[i]? = some (vs[i]'(by rw [hvs.1]; omega)) := List.getElem?_eq_getElem _
        have e2 : eqs[i]? = some (eqs[i]'(by omega)) := List.getElem?_eq_getElem _
        exact ⟨_, _, e1, e2, hzs i _ _ z e1 e2 e⟩
      have eqlen : ∀ p ∈ eqs, p.length = w + 1 := fun p hp => by
        rw [heqs] at hp
        obtain ⟨⟨q, t⟩, hq, rfl⟩ := List.mem_map.mp hp
        obtain ⟨i, hi, e⟩ := List.getElem_of_mem hq
        obtain ⟨e1, e2⟩ := List.getElem?_zip_eq_some.mp (show (rq.zip ts)[i]? = some (q, t) by rw [List.getElem?_eq_getElem hi, e])
        rw [List.length_append, qlen i q e1]
        rfl
      have zsq : zs = primR rq ts := by
        unfold primR
        rw [← heqs]
        apply List.ext_getElem?
        intro i
        rw [List.getElem?_map]
        cases e : zs[i]? with
        | none =>
          rw [List.getElem?_eq_none_iff, zsl] at e
          rw [List.getElem?_eq_none e]
          rfl
        | some z =>
          obtain ⟨v', p, _, e2, _, _, _, e5⟩ := zat i z e
          rw [e2, e5]
          rfl
      have hA : AllG (IL H5) vs zs := ⟨by rw [zsl, hvs.1], fun i v z a b => by
        obtain ⟨v', p, e1, e2, h1, _⟩ := zat i z b
        rw [a] at e1
        cases e1
        exact h1.il⟩
      have hw : ∀ x ∈ zs, x.length = w + 1 := fun x hx => by
        obtain ⟨i, hi, e⟩ := List.getElem_of_mem hx
        obtain ⟨v', p, e1, e2, h1, ⟨k, k0, hS⟩, _⟩ := zat i x (by rw [List.getElem?_eq_getElem hi, e])
        rw [hS.1]
        exact eqlen p (List.mem_of_getElem? e2)
      have hM : ∀ x ∈ zs, ∀ z ∈ x, z.natAbs ≤ 2 ^ (B + G) := fun x hx => by
        obtain ⟨i, hi, e⟩ := List.getElem_of_mem hx
        obtain ⟨v', p, e1, e2, h1, _, h3, _⟩ := zat i x (by rw [List.getElem?_eq_getElem hi, e])
        exact h3
      have cl : cs.length = w := by rw [hcs.1]; unfold colsV; rw [List.length_map, List.length_range]
      have rl9 := hE.rl
      have zl2 : zs.length = rv.length := by rw [zsl, eql, List.length_map, ll]
      refine ⟨.ref C, rfl, .ref C, cs.length, rfl, len_any (.inr (SqL.of (s5 _ _ hC))), ?_⟩
      rw [cl]
      obtain ⟨ps, xs, I⟩ := Bar.elim_inv hw (Nat.le_refl w)
      obtain ⟨b1, _, b3⟩ := I.bound hM wL
      have seq : ∀ (i : Nat) x q t, zs[i]? = some x → rq[i]? = some q → ts[i]? = some t → ∃ k : Int, 0 < k ∧ Bar.Scc (k : Rat) x (q ++ [t]) := fun i x q t h1 h2 h3 => by
        obtain ⟨v', p, e1, e2, _, ⟨k, k0, hS⟩, _⟩ := zat i x h1
        rw [heqs, List.getElem?_map, (List.getElem?_zip_eq_some (z := (q, t))).mpr ⟨h2, h3⟩] at e2
        cases e2
        exact ⟨k, k0, hS⟩
      refine ⟨D, vs, zs, w, B + G, L, rfl, hD, hA, hw, by omega, hE.w9, hM, wL, by omega, fun hbad H6 s6 => ?_, fun hgood r xsv H6 s6 nr hr hsol => ?_⟩
      rotate_left
      · -- a solution
        obtain ⟨F1, F2⟩ := sol_frs I (C := N) (fun y hy z hz => Nat.le_trans (b1 y hy z hz) (Nat.pow_le_pow_right (by decide) wN)) hsol
        refine ⟨_, rfl, rfl, _, rfl, ?_⟩
        refine ifT (c := !decide (V.ref r = V.non)) (by simp) ?_
        refine ⟨.ref r, rfl, sz (by show 2 ≤ 100000; decide), fun t nt => ?_⟩
        have st := Same.new (o := .tup [.str "solution", .ref r]) nt
        have s06 := s02.trans (s5.trans s6)
        have tr : t ≠ r := (ne_of_none hr nt).symm
        have nH : ∀ {b : Addr} {Ha Hb : Hp}, Same Ha Hb → Hb b = none → Ha b = none := fun {b Ha Hb} s n => by
          cases e : Ha b with
          | none => rfl
          | some o =>
            rw [s _ _ e] at n
            cases n
        refine fin t r "solution" xsv _ (Bar.elimN zs w).last _ (s06.trans st) (nH s06 nt) (SqT.of upd_same) (nH (s02.trans s5) nr) (st _ _ hr) tr (F1.mv st) ?_ F2 (Nat.le_trans b3 (Nat.pow_le_pow_right (by decide) wN)) (.inl ⟨rfl, ?_⟩) ?_
        · rw [I.last]
          exact I.nz _ (Nat.le_refl _)
        · unfold solOk
          rw [Bar.valN_len, decide_eq_true rfl, Bool.true_and, List.all_eq_true]
          rintro ⟨q, t⟩ hq
          obtain ⟨i, hi, e⟩ := List.getElem_of_mem hq
          obtain ⟨e1, e2⟩ := List.getElem?_zip_eq_some.mp (show (rq.zip ts)[i]? = some (q, t) by rw [List.getElem?_eq_getElem hi, e])
          have il : i < zs.length := by
            have := (List.getElem?_eq_some_iff.mp e1).1
            rw [hE.ql] at this
            omega
          obtain ⟨k, k0, hS⟩ := seq i _ q t (List.getElem?_eq_getElem il) e1 e2
          have k1 : (k : Rat) ≠ 0 := fun z => by
            have : k = 0 := by exact_mod_cast z
            omega
          have ok := I.sol_ok hgood (List.getElem_mem il) k1 (qlen i q e1) hS
          refine decide_eq_true ?_
          show Bar.dot (q ++ [t]) (Bar.valN (Bar.elimN zs w) w ps.length ++ [-1]) = 0
          rw [Bar.dot_app (by rw [Bar.valN_len]; exact qlen i q e1), ok]
          grind
        · unfold solveQ
          rw [← zsq, if_pos (List.all_eq_true.mpr fun y hy => decide_eq_true (hgood y hy)), I.lc]
      -- no solution
      refine ⟨_, rfl, rfl, _, rfl, ?_⟩
      refine ifF (c := !decide (V.non = V.non)) (by simp) ?_
      have s06 := s02.trans (s5.trans s6)
      have hC6 := s6 _ _ (s5 _ _ hC)
      have hE6 := hE2.same (s5.trans s6)
      obtain ⟨eqd, heqd⟩ : ∃ e, e = (List.range w).map fun j => colQ rq j ++ [0] := ⟨_, rfl⟩
      have edl : eqd.length = w := by rw [heqd, List.length_map, List.length_range]
      refine ⟨.ref C, rfl, C, rfl, ⟨_, SqL.of hC6⟩, fun D2 nD2 => ?_⟩
      refine lc_list (K := K) (a := C) (xs := cs) (fun i H7 => Same H6 H7 ∧ ∃ vs, H7 D2 = some (.lst vs) ∧ AllG (fun v p => ∃ z, ILx D2 H7 v z ∧ (∃ k : Int, 0 < k ∧ Sc (k : Rat) z p) ∧ (∀ u ∈ z, u.natAbs ≤ 2 ^ (B + G)) ∧ z = intsQ p) vs (eqd.take i)) ⟨Same.new nD2, [], upd_same, AllG.nil⟩ (fun i H7 _ h => SqL.of (h.1 _ _ hC6)) ?_ ?_
      · rintro i x H7 hx ⟨s7, us, hD7, hus⟩
        obtain ⟨c, hc, p, rfl, hp⟩ := hcs.at hx
        have iw : i < w := by
          have := (List.getElem?_eq_some_iff.mp hx).1
          omega
        have ec : c = colV rv i := by
          unfold colsV at hc
          rw [List.getElem?_map, List.getElem?_range iw] at hc
          exact (Option.some.inj hc).symm
        subst ec
        obtain ⟨hf, hd⟩ := hE6.col iw
        have hp7 := s7 _ _ (s6 _ _ (s5 _ _ hp))
        have ie : eqd[i]? = some (colQ rq i ++ [0]) := by rw [heqd, List.getElem?_map, List.getElem?_range iw]; rfl
        have vl : (colV rv i).length = rv.length := List.length_map ..
        refine ⟨rfl, tYes_if ?_⟩
        refine ⟨.ref p, rfl, p, colV rv i, rfl, .inr (SqL.of hp7), sz (by show (colV rv i ++ [V.ref a.o_ZERO]).length ≤ 100000; rw [List.length_append]; show (colV rv i).length + 1 ≤ _; omega), fun q nq => ?_⟩
        have sq := Same.new (o := .lst (colV rv i ++ [V.ref a.o_ZERO])) nq
        have hz0 : FR K (upd H7 q (.lst (colV rv i ++ [V.ref a.o_ZERO]))) (.ref a.o_ZERO) 0 B := (fr_zero (T.t_ZERO _)).up hE.B0
        have hrow : FRs K (upd H7 q (.lst (colV rv i ++ [V.ref a.o_ZERO]))) (colV rv i ++ [V.ref a.o_ZERO]) (colQ rq i ++ [0]) B := FRs.snoc (hf.mv (s7.trans sq)) hz0
        refine ⟨q, colV rv i ++ [V.ref a.o_ZERO], colQ rq i ++ [0], B, G, P, rfl, .inr (SqL.of upd_same), hrow, hE.B0, hE.B8, hE.P0, fun u hu => ?_, hE.pB, hE.G8, by rw [List.length_append]; show (colV rv i).length + 1 ≤ _; omega, fun r z k H8 s8 nr hr k0 kB hS hZ hQ => ?_⟩
        · rcases List.mem_append.mp hu with h | h
          · exact hd u h
          · rw [List.mem_singleton.mp h]
            exact Int.one_dvd P
        have s78 := sq.trans s8
        have hD8 := s78 _ _ hD7
        have rD : r ≠ D2 := (ne_of_none (sq _ _ hD7) nr).symm
        have ul : us.length = i := by rw [hus.1, List.length_take, edl]; omega
        refine ⟨_, hD8, szl (by rw [ul]; have := hE.w9; omega), fun b o e => ?_, us ++ [.ref r], upd_same, ?_⟩
        · rw [upd_ne (ne_of_none e nD2)]
          exact s78 _ _ (s7 _ _ e)
        · rw [List.take_add_one, ie]
          refine AllG.app (hus.mono fun v p h => ?_) (AllG.one ⟨z, ⟨r, rfl, rD, by rw [upd_ne rD]; exact hr⟩, ⟨k, k0, hS⟩, hZ, hQ⟩)
          obtain ⟨z', h1, h2, h3, h4⟩ := h
          exact ⟨z', (h1.same s78).put, h2, h3, h4⟩
      rintro H7 ⟨s7, us, hD7, hus⟩
      rw [List.take_of_length_le (by omega)] at hus
      obtain ⟨cz, czl, hcz⟩ := hus.pick
      have hE7 := hE6.same s7
      have yl9 : ys.length ≤ 900 := by have := hE.yl; omega
      refine ⟨.ref D2, rfl, D2, us, rfl, .inr (SqL.of hD7), .ref y, rfl, y, ys, rfl, zsq_or hE7.tgt, sz (by show 2 ≤ 100000; decide), fun p np => ?_⟩
      have sp := Same.new (o := .tup [.int 1, .int 1]) np
      have hp1 : FR K (upd H7 p (.tup [.int 1, .int 1])) (.ref p) 1 B := by
        have e1 : ofR 1 = (1, 1) := rfl
        refine FR.mk ?_ ⟨?_, ?_⟩
        · rw [e1]
          exact Fr.new
        · rw [e1]
          exact Nat.lt_of_lt_of_le (show (1 : Nat) < 2 ^ 1 by decide) (Nat.pow_le_pow_right (by decide) hE.B0)
        · rw [e1]
          exact Nat.lt_of_lt_of_le (show (1 : Nat) < 2 ^ 1 by decide) (Nat.pow_le_pow_right (by decide) hE.B0)
      refine ⟨sz (by show (ys ++ [V.ref p]).length ≤ 100000; rw [List.length_append]; show ys.length + 1 ≤ _; omega), fun L1 nL1 => ?_⟩
      have sL := Same.new (o := .lst (ys ++ [.ref p])) nL1
      have s7L := sp.trans sL
      have hrow : FRs K (upd (upd H7 p (.tup [.int 1, .int 1])) L1 (.lst (ys ++ [.ref p]))) (ys ++ [.ref p]) (ts ++ [1]) B := FRs.snoc (hE7.ft.mv s7L) (hp1.same sL)
      refine ⟨L1, ys ++ [.ref p], ts ++ [1], B, G, P, rfl, .inr (SqL.of upd_same), hrow, hE.B0, hE.B8, hE.P0, fun u hu => ?_, hE.pB, hE.G8, by rw [List.length_append]; show ys.length + 1 ≤ _; omega, fun rt zt kt H8 s8 nrt hrt kt0 ktB hSt hZt hQt => ?_⟩
      · rcases List.mem_append.mp hu with h | h
        · exact hE.pt u h
        · rw [List.mem_singleton.mp h]
          exact Int.one_dvd P
      have usl : us.length = w := by rw [hus.1, edl]
      refine ⟨sz (by show (us ++ [V.ref rt]).length ≤ 100000; rw [List.length_append, usl]; show w + 1 ≤ _; have := hE.w9; omega), fun L2 nL2 => ?_⟩
      have s2L := Same.new (o := .lst (us ++ [.ref rt])) nL2
      have s79 := s7L.trans (s8.trans s2L)
      have hE9 := hE7.same s79
      obtain ⟨ls9, hR9, ll9, _⟩ := hE9.rows
      refine ⟨.ref R, rfl, .ref R, (ls9.map V.ref).length, rfl, len_any (zsq_or hR9), ?_⟩
      rw [List.length_map, ll9, ← hE.ql]
      -- the columns in integers
      have cat : ∀ (i : Nat) z, (cz ++ [zt])[i]? = some z → ∃ v, (us ++ [V.ref rt])[i]? = some v ∧ IL (upd H8 L2 (.lst (us ++ [.ref rt]))) v z ∧ z.length = rq.length + 1 ∧ (∀ u ∈ z, u.natAbs ≤ 2 ^ (B + G)) ∧ ∃ k : Int, 0 < k ∧ ((∃ j, j < w ∧ Bar.Scc (k : Rat) z (colQ rq j ++ [0])) ∨ Bar.Scc (k : Rat) z (ts ++ [1])) := fun i z e => by
        by_cases hi : i < w
        · rw [List.getElem?_append_left (by omega)] at e
          rw [List.getElem?_append_left (by omega)]
          have e1 : us[i]? = some (us[i]'(by omega)) := List.getElem?_eq_getElem _
          have e2 : eqd[i]? = some (colQ rq i ++ [0]) := by rw [heqd, List.getElem?_map, List.getElem?_range hi]; rfl
          obtain ⟨h1, ⟨k, k0, h2⟩, h3, _⟩ := hcz i _ _ z e1 e2 e
          refine ⟨_, e1, h1.il.same s79, ?_, h3, k, k0, .inl ⟨i, hi, h2⟩⟩
          rw [h2.1, List.length_append]
          show (colQ rq i).length + 1 = _
          rw [show (colQ rq i).length = rq.length from List.length_map ..]
        · have il := (List.getElem?_eq_some_iff.mp e).1
          rw [List.length_append] at il
          have ei : i = w := by
            have : ([zt] : List (List Int)).length = 1 := rfl
            omega
          subst ei
          rw [List.getElem?_append_right (by omega), czl, edl, Nat.sub_self] at e
          cases e
          rw [List.getElem?_append_right (by omega), usl, Nat.sub_self]
          refine ⟨_, rfl, IL.same ⟨rt, rfl, hrt⟩ s2L, ?_, hZt, kt, kt0, .inr hSt⟩
          rw [hSt.1, List.length_append, tlen]
          rfl
      have cl2 : (cz ++ [zt]).length = w + 1 := by rw [List.length_append, czl, edl]; rfl
      have mem2 : ∀ z ∈ cz ++ [zt], z.length = rq.length + 1 ∧ (∀ u ∈ z, u.natAbs ≤ 2 ^ (B + G)) ∧ ∃ k : Int, 0 < k ∧ ((∃ j, j < w ∧ Bar.Scc (k : Rat) z (colQ rq j ++ [0])) ∨ Bar.Scc (k : Rat) z (ts ++ [1])) := fun z hz => by
        obtain ⟨i, hi, e⟩ := List.getElem_of_mem hz
        obtain ⟨_, _, _, h⟩ := cat i z (by rw [List.getElem?_eq_getElem hi, e])
        exact h
      have hA2 : AllG (IL (upd H8 L2 (.lst (us ++ [.ref rt])))) (us ++ [V.ref rt]) (cz ++ [zt]) := ⟨by rw [cl2, List.length_append, usl]; rfl, fun i v z e1 e2 => by
        obtain ⟨v', e3, h, _⟩ := cat i z e2
        rw [e1] at e3
        cases e3
        exact h⟩
      have rL' : rq.length + 1 ≤ 2 ^ L := by rw [hE.ql]; exact rL
      have rN' : (B + G + L) * (rq.length + 1) ≤ N := by rw [hE.ql]; exact rN
      obtain ⟨ps', xs', I'⟩ := Bar.elim_inv (rows := cz ++ [zt]) (w := rq.length) (fun x hx => (mem2 x hx).1) (Nat.le_refl _)
      obtain ⟨d1, _, d3⟩ := I'.bound (M := B + G) (L := L) (fun x hx => (mem2 x hx).2.1) rL'
      have noBad : ∀ z ∈ (Bar.elimN (cz ++ [zt]) rq.length).rest, vec z rq.length = 0 := by
        obtain ⟨y', hy', ny'⟩ := hbad
        refine Bar.dual_ok I hy' ny' (by rw [zl2, hE.ql]) tlen (fun q hq => ?_) seq (fun c hc => ?_) I'
        · obtain ⟨i, hi, e⟩ := List.getElem_of_mem hq
          exact qlen i q (by rw [List.getElem?_eq_getElem hi, e])
        · obtain ⟨_, _, k, _, h⟩ := mem2 c hc
          exact ⟨k, h⟩
      refine ⟨L2, us ++ [.ref rt], cz ++ [zt], rq.length, B + G, L, rfl, upd_same, hA2, fun x hx => (mem2 x hx).1, by have := hE.w9; omega, by rw [hE.ql]; exact rl9, fun x hx => (mem2 x hx).2.1, rL', by omega, fun hb => ?_, fun _ r xsv H9 s9 nr hr hsol => ?_⟩
      · obtain ⟨y', hy', ny'⟩ := hb
        exact absurd (noBad y' hy') ny'
      obtain ⟨F1, F2⟩ := sol_frs I' (C := N) (fun y hy z hz => Nat.le_trans (d1 y hy z hz) (Nat.pow_le_pow_right (by decide) rN')) hsol
      refine ⟨sz (by show 2 ≤ 100000; decide), fun t nt => ?_⟩
      have st := Same.new (o := .tup [.str "certificate", .ref r]) nt
      have s09 := (s06.trans (s7.trans s79)).trans s9
      have tr : t ≠ r := (ne_of_none hr nt).symm
      have nH : ∀ {b : Addr} {Ha Hb : Hp}, Same Ha Hb → Hb b = none → Ha b = none := fun {b Ha Hb} s n => by
        cases e : Ha b with
        | none => rfl
        | some o =>
          rw [s _ _ e] at n
          cases n
      refine fin t r "certificate" xsv _ (Bar.elimN (cz ++ [zt]) rq.length).last _ (s09.trans st) (nH s09 nt) (SqT.of upd_same) (nH (s06.trans (s7.trans s79)) nr) (st _ _ hr) tr (F1.mv st) ?_ F2 (Nat.le_trans d3 (Nat.pow_le_pow_right (by decide) rN')) (.inr ⟨rfl, ?_⟩) ?_
      · rw [I'.last]
        exact I'.nz _ (Nat.le_refl _)
      have val : ∀ c ∈ cz ++ [zt], ∀ q t (k : Int), 0 < k → q.length = rq.length → Bar.Scc (k : Rat) c (q ++ [t]) → Bar.dot q (Bar.valN (Bar.elimN (cz ++ [zt]) rq.length) rq.length ps'.length) = t := fun c hc q t k k0 ql hS => by
        have k1 : (k : Rat) ≠ 0 := fun z => by
          have : k = 0 := by exact_mod_cast z
          omega
        exact I'.sol_ok noBad hc k1 ql hS
      unfold certOk
      rw [Bar.valN_len, decide_eq_true rfl, Bool.true_and, Bool.and_eq_true, List.all_eq_true]
      constructor
      · intro j hj
        have hjw := List.mem_range.mp hj
        have e1 : us[j]? = some (us[j]'(by omega)) := List.getElem?_eq_getElem _
        have e2 : eqd[j]? = some (colQ rq j ++ [0]) := by rw [heqd, List.getElem?_map, List.getElem?_range hjw]; rfl
        have e3 : cz[j]? = some (cz[j]'(by omega)) := List.getElem?_eq_getElem _
        obtain ⟨h1, ⟨k, k0, h2⟩, h3, _⟩ := hcz j _ _ _ e1 e2 e3
        exact decide_eq_true (val _ (List.mem_append_left _ (List.getElem_mem _)) (colQ rq j) 0 k k0 (List.length_map ..) h2)
      · have e : dotR ts (Bar.valN (Bar.elimN (cz ++ [zt]) rq.length) rq.length ps'.length) = 1 := val zt (List.mem_append_right _ List.mem_cons_self) ts 1 kt kt0 tlen hSt
        rw [e]
        rfl
      · have cze : cz = eqd.map intsQ := by
          apply List.ext_getElem?
          intro i
          rw [List.getElem?_map]
          by_cases hi : i < w
          · have e1 : us[i]? = some (us[i]'(by omega)) := List.getElem?_eq_getElem _
            have e2 : eqd[i]? = some (eqd[i]'(by omega)) := List.getElem?_eq_getElem _
            have e3 : cz[i]? = some (cz[i]'(by omega)) := List.getElem?_eq_getElem _
            obtain ⟨_, _, _, h4⟩ := hcz i _ _ _ e1 e2 e3
            rw [e2, e3, h4]
            rfl
          · rw [List.getElem?_eq_none (by omega), List.getElem?_eq_none (by omega)]
            rfl
        have dd : cz ++ [zt] = dualR rq ts w := by
          unfold dualR
          rw [← heqd, ← cze, hQt]
        unfold solveQ
        rw [← zsq, if_neg, ← dd, I'.lc]
        obtain ⟨y', hy', ny'⟩ := hbad
        intro hc
        exact ny' (of_decide_eq_true (List.all_eq_true.mp hc y' hy'))
end
section
variable {P : Program} {w : World} {K : PySem.W.Frag} {mg : Str → Option Value} {base : Heap} {a : Ad}
def sp_l_source (K : PySem.W.Frag) : Sp := fun vs H Q _ => ∃ (b : Addr) (ns : List Int), vs = [.ref b] ∧ SqL K H b (ns.map V.int) ∧ ns.length ≤ 63 ∧ ∀ H' r, Same H H' → H r = none → Rg H' r → Q (.ref r) H'
theorem cut63 {xs : List V} (h : xs.length ≤ 63) : cutV xs none (some 63) = xs := by
  unfold cutV
  rw [HT.sIx_none, show HT.sIx xs.length xs.length (some 63) = min 63 xs.length from HT.sIx_nat xs.length xs.length 63]
  rw [List.drop_zero, show min 63 xs.length - 0 = xs.length by omega, List.take_length]

theorem ok_l_source (T : Txt K mg a) : FnOk P w K mg base CX0 1 a.f_l_source a.fd_l_source ["_law_script"] (sp_l_source K) := by
  refine T.F_l_source.ok sc_l_source (fun vs H Q E h => ?_) (fun cdv A outer s H vs Q E hr h => ?_)
  · obtain ⟨b, ns, rfl, _⟩ := h
    rfl
  · obtain ⟨b, ns, rfl, hS, hlen, w⟩ := h
    refine ⟨_, (pss_cons (ps_set (i := 1) sc_l_source.nd rfl (by first | exact Or.inl rfl | exact Or.inr rfl) (pe_op op_add pe_int (pe_op op_mul pe_int (pe_callB call_len (by rfl) T.n_len (by decide +kernel) (pa_cons (pe_slice sl_list (pv 0) po_none (po_some pe_int)) pa_nil)))))
          (pss_cons (ps_for PassesOwn.never rfl (pi_list (pe_slice sl_list (pv 0) po_none (po_some pe_int))) (pg_name (i := 2) sc_l_source.nd rfl (by first | exact Or.inl rfl | exact Or.inr rfl)) (pss_one (ps_set (i := 1) sc_l_source.nd rfl (by first | exact Or.inl rfl | exact Or.inr rfl) (pe_op op_mod (pe_op op_add (pe_op op_add (pe_op op_mul (pv 1) pe_int) (pe_op op_mod (pv 2) pe_int)) pe_int) pe_int))))
          (pss_one (ps_ret (pe_lst (pa_cons (pe_callTy call_list_of (by rfl) T.n_list (by decide +kernel) (pa_cons (pe_slice sl_list (pv 0) po_none (po_some pe_int)) pa_nil)) (pa_cons pe_int (pa_cons pe_int (pa_cons (pv 1) pa_nil))))))))), ?_⟩
    have hl : (ns.map V.int).length ≤ 63 := by rw [List.length_map]; exact hlen
    refine ⟨.ref b, rfl, 63, rfl, b, _, rfl, hS, fun p np => ?_⟩
    rw [cut63 hl]
    have s1 : Same H (upd H p (.lst (ns.map V.int))) := Same.new np
    refine ⟨.ref p, ns.length, rfl, .inl ⟨_, SqL.of upd_same, by simp⟩, 67, _, rfl, rfl, .inl ⟨by decide, by decide⟩, 9472, _, rfl, rfl, ?_⟩
    refine ⟨.ref b, rfl, 63, rfl, b, _, rfl, s1.seq hS, fun p2 np2 => ?_⟩
    rw [cut63 hl]
    have s2 : Same H (upd (upd H p (.lst (ns.map V.int))) p2 (.lst (ns.map V.int))) := s1.trans (Same.new np2)
    refine ⟨p2, rfl, ⟨_, SqL.of upd_same⟩, for_list (K := K) (a := p2) (xs := ns.map V.int) (fun i σ H' => ∃ k y, σ = [some (.ref b), some (.int k), y] ∧ 0 ≤ k ∧ k < 2147483563 ∧ H' = upd (upd H p (.lst (ns.map V.int))) p2 (.lst (ns.map V.int)))
      ⟨_, none, rfl, by omega, by omega, rfl⟩ (fun i σ H' _ ⟨_, _, _, _, _, e⟩ => by rw [e]; exact SqL.of upd_same) ?_ ?_⟩
    · rintro i y σ H' hi ⟨k, y', rfl, k0, k1, rfl⟩
      obtain ⟨z, hz, rfl⟩ : ∃ z, ns[i]? = some z ∧ y = V.int z := by
        rw [List.getElem?_map] at hi
        cases e : ns[i]? with
        | none => rw [e] at hi; cases hi
        | some z => rw [e] at hi; exact ⟨z, rfl, (Option.some.inj hi).symm⟩
      refine ⟨.int k, rfl, k, 40014, rfl, rfl, .inl ⟨by omega, by omega⟩, .int z, rfl, z, 2147483563, rfl, rfl, (show (0 : Int) < 2147483563 by decide), _, _, rfl, rfl, _, _, rfl, rfl, _, 2147483563, rfl, rfl, (show (0 : Int) < 2147483563 by decide), ?_⟩
      exact ⟨_, _, rfl, Int.emod_nonneg _ (by decide), Int.emod_lt_of_pos _ (by decide), rfl⟩
    · rintro σ H' ⟨k, y', rfl, k0, k1, rfl⟩
      refine ⟨.ref b, rfl, 63, rfl, b, _, rfl, s2.seq hS, fun p3 np3 => ?_⟩
      rw [cut63 hl]
      refine ⟨p3, _, rfl, .inl (SqL.of upd_same), fun l nl => ?_⟩
      refine ⟨.int k, rfl, sz (by show 4 ≤ 100000; decide), fun r nr => ?_⟩
      have s3 := s2.trans (Same.new (o := .lst (ns.map V.int)) np3)
      have s4 := s3.trans (Same.new (o := .lst (ns.map V.int)) nl)
      have s5 := s4.trans (Same.new (o := .lst [.ref l, .int 0, .int 0, .int k]) nr)
      refine w _ r s5 (s4.free nr) ⟨l, ns, 0, 0, k, upd_same, ?_, by omega, by omega, by omega, k0, k1⟩
      rw [upd_ne (fun z => by rw [z] at nl; rw [← z, upd_same] at nr; cases nr)]
      exact upd_same
end
section
variable {P : Program} {w : World} {K : PySem.W.Frag} {mg : Str → Option Value} {base : Heap} {a : Ad}
def sp_l_draw (_ : PySem.W.Frag) : Sp := fun vs H Q _ => ∃ (r : Addr) (q : Int), vs = [.ref r, .int q] ∧ Rg H r ∧ 0 < q ∧ q < 2 ^ 64 ∧ ∀ v H', 0 ≤ v → v < q → Kp r H H' → Rg H' r → Q (.int v) H'
theorem cell_at {ns : List Int} {i : Int} (h0 : 0 ≤ i) (h1 : i < (ns.length : Int)) : ∃ z, atI (ns.map V.int) i = some (V.int z) := by
  have e : i = ((i.toNat : Nat) : Int) := by omega
  have l : i.toNat < ns.length := by omega
  refine ⟨ns[i.toNat], ?_⟩
  have h : atI (ns.map V.int) ((i.toNat : Nat) : Int) = some (V.int ns[i.toNat]) := atI_nat (by simp [l])
  rw [← e] at h
  exact h
theorem div_ok {q : Int} (h : 0 < q) (h' : q < 2 ^ 64) (i : Int) : CDivW i q := wide_div (b := 64) h (by omega) (by decide) (by decide)

theorem ok_l_draw (T : Txt K mg a) : FnOk P w K mg base CX0 1 a.f_l_draw a.fd_l_draw ["_law_rng", "_law_quantity"] (sp_l_draw K) := by
  refine T.F_l_draw.ok sc_l_draw (fun vs H Q E h => ?_) (fun cdv A outer s H vs Q E hr h => ?_)
  · obtain ⟨r, q, rfl, _⟩ := h
    rfl
  · obtain ⟨r, q, rfl, ⟨c, ns, i, x, k, R⟩, q0, q1, w⟩ := h
    refine ⟨_, (C8.pss_cut (ps_if (PW.pt (pw_and (pt_cmpR op_eq (pe_ix ix_list (pv 0) pe_int (fun _ _ => rfl)) pe_int (nomark _)) (pw_and1 (pt_cmpR op_lt (pe_ix ix_list (pv 0) pe_int (fun _ _ => rfl)) (pe_callB call_len (by rfl) T.n_len (by decide +kernel) (pa_cons (pe_ix ix_list (pv 0) pe_int (fun _ _ => rfl)) pa_nil)) (nomark _))))) (pss_cons (ps_set (i := 2) sc_l_draw.nd rfl (by first | exact Or.inl rfl | exact Or.inr rfl) (pe_ix ix_list (pe_ix ix_list (pv 0) pe_int (fun _ _ => rfl)) (pe_ix ix_list (pv 0) pe_int (fun _ _ => rfl)) (fun _ _ => rfl)))
          (pss_cons (ps_asg (pe_op op_add (pe_ix ix_list (pv 0) pe_int (fun _ _ => rfl)) pe_int) (pg_sub (pv 0) pe_int set_list))
          (pss_one (ps_if (pt_cmpR op_ge (pv 2) (pe_op op_pow pe_int pe_int) (nomark _)) (pss_one (ps_asg (pv 2) (pg_sub (pv 0) pe_int set_list))) (pss_one (ps_asg (pe_op op_mod (pe_op op_add (pe_op op_add (pe_op op_mul (pe_ix ix_list (pv 0) pe_int (fun _ _ => rfl)) pe_int) (pe_op op_mul (pe_op op_mod (pv 2) pe_int) pe_int)) (pe_ix ix_list (pv 0) pe_int (fun _ _ => rfl))) pe_int) (pg_sub (pv 0) pe_int set_list))))))) pss_nil)
          (pss_cons (ps_if (pt_cmpR op_gt (pe_ix ix_list (pv 0) pe_int (fun _ _ => rfl)) pe_int (nomark _)) (pss_cons (ps_set (i := 3) sc_l_draw.nd rfl (by first | exact Or.inl rfl | exact Or.inr rfl) (pe_op op_mod (pe_ix ix_list (pv 0) pe_int (fun _ _ => rfl)) (pv 1)))
          (pss_cons (ps_asg (pe_op op_fdivW (pe_ix ix_list (pv 0) pe_int (fun _ _ => rfl)) (pv 1)) (pg_sub (pv 0) pe_int set_list))
          (pss_one (ps_ret (pv 3))))) pss_nil)
          (pss_cons (ps_set (i := 4) sc_l_draw.nd rfl (by first | exact Or.inl rfl | exact Or.inr rfl) (pe_ix ix_list (pv 0) pe_int (fun _ _ => rfl)))
          (pss_cons (ps_asg (pe_op op_mod (pe_op op_add (pe_op op_add (pe_op op_mul (pv 4) (pv 4)) (pe_op op_mul (pv 4) pe_int)) pe_int) pe_int) (pg_sub (pv 0) pe_int set_list))
          (pss_one (ps_ret (pe_op op_mod (pe_op op_add (pe_op op_fdivW (pe_ix ix_list (pv 0) pe_int (fun _ _ => rfl)) pe_int) (pe_op op_mul (pe_op op_mod (pe_ix ix_list (pv 0) pe_int (fun _ _ => rfl)) pe_int) pe_int)) (pv 1)))))))), ?_⟩
    have hR := R.hr
    have hC := R.hc
    have hk0 := R.k0
    have hk1 := R.k1
    have hi0 := R.i0
    refine ⟨fun σ H1 => ∃ y i1 x1 k1, σ = [some (.ref r), some (.int q), y, none, none] ∧ RgS H1 r c ns i1 x1 k1 ∧ Kp r H H1, ?_, ?_⟩
    · refine ⟨.ref r, rfl, r, _, 2, _, rfl, rfl, SqL.of hR, rfl, rfl, _, rfl, ite2 (fun e => ?_) (fun e => ?_)⟩
      · refine ⟨.ref r, rfl, r, _, 1, _, rfl, rfl, SqL.of hR, rfl, .ref r, rfl, r, _, 0, _, rfl, rfl, SqL.of hR, rfl, .ref c, ns.length, rfl, .inl ⟨_, SqL.of hC, by simp⟩, i, _, rfl, rfl, _, rfl, ite2 (fun e1 => ?_) (fun e1 => ?_)⟩
        · have l1 : i < (ns.length : Int) := of_decide_eq_true e1
          obtain ⟨z, hz⟩ := cell_at hi0 l1
          have hx : x = 0 := V.int.inj (of_decide_eq_true e)
          refine ⟨.ref r, rfl, r, _, 0, _, rfl, rfl, SqL.of hR, rfl, .ref r, rfl, r, _, 1, _, rfl, rfl, SqL.of hR, rfl, c, _, i, .int z, rfl, rfl, SqL.of hC, hz, ?_⟩
          refine ⟨.ref r, rfl, r, _, 1, _, rfl, rfl, SqL.of hR, rfl, i, 1, rfl, rfl, .ref r, rfl, r, _, 1, 1, rfl, rfl, hR, rfl, ?_⟩
          have R1 := R.set (i' := i + 1) (x' := x) (k' := k) (by omega) (by omega) R.x0 R.k0 R.k1
          refine ⟨.int z, rfl, 10, 18, rfl, rfl, ⟨by decide, by decide, by decide⟩, z, _, rfl, rfl, _, rfl, ite2 (fun e2 => ?_) (fun e2 => ?_)⟩
          · have hz2 : (10 : Int) ^ 18 ≤ z := of_decide_eq_true e2
            have R2 := R.set (i' := i + 1) (x' := z) (k' := k) (by omega) (by omega) (by omega) R.k0 R.k1
            refine ⟨.int z, rfl, .ref r, rfl, r, _, 2, 2, rfl, rfl, R1.hr, rfl, ?_⟩
            refine ⟨_, i + 1, z, k, rfl, ?_, ?_⟩
            · rw [upd_upd]; exact R2
            · rw [upd_upd]; exact Kp.at hR
          · refine ⟨.ref r, rfl, r, _, 3, _, rfl, rfl, SqL.of R1.hr, rfl, k, 40692, rfl, rfl, .inl ⟨by omega, by omega⟩, .int z, rfl, z, 2147483563, rfl, rfl, (show (0 : Int) < 2147483563 by decide), _, 71, rfl, rfl, .inr ⟨by decide, by decide⟩, _, _, rfl, rfl,
              .ref r, rfl, r, _, 1, _, rfl, rfl, SqL.of R1.hr, rfl, _, _, rfl, rfl, _, 2147483563, rfl, rfl, (show (0 : Int) < 2147483563 by decide), .ref r, rfl, r, _, 3, 3, rfl, rfl, R1.hr, rfl, ?_⟩
            have R2 := R.set (i' := i + 1) (x' := x) (k' := (k * 40692 + z % 2147483563 * 71 + (i + 1)) % 2147483563) (by omega) (by omega) (by omega) (by omega) (by omega)
            refine ⟨_, i + 1, x, (k * 40692 + z % 2147483563 * 71 + (i + 1)) % 2147483563, rfl, ?_, ?_⟩
            · rw [upd_upd]; exact R2
            · rw [upd_upd]; exact Kp.at hR
        · exact ⟨none, i, x, k, rfl, R, Kp.refl⟩
      · exact iteF ⟨none, i, x, k, rfl, R, Kp.refl⟩
    · rintro σ H1 ⟨y, i1, x1, k1, rfl, R1, kp⟩
      have hR1 := R1.hr
      have hk0 := R1.k0
      have hk1 := R1.k1
      have hx0 := R1.x0
      refine ⟨.ref r, rfl, r, _, 2, _, rfl, rfl, SqL.of hR1, rfl, x1, 0, rfl, rfl, _, rfl, ite2 (fun e => ?_) (fun e => ?_)⟩
      · refine ⟨.ref r, rfl, r, _, 2, _, rfl, rfl, SqL.of hR1, rfl, .int q, rfl, x1, q, rfl, rfl, q0, ?_⟩
        refine ⟨.ref r, rfl, r, _, 2, _, rfl, rfl, SqL.of hR1, rfl, .int q, rfl, x1, q, rfl, rfl, div_ok q0 q1 x1, .ref r, rfl, r, _, 2, 2, rfl, rfl, hR1, rfl, ?_⟩
        refine ⟨_, rfl, w _ _ (Int.emod_nonneg _ (by omega)) (Int.emod_lt_of_pos _ q0) (kp.trans (Kp.at hR1)) ⟨c, ns, i1, x1 / q, k1, R1.set R1.i0 R1.i1 (Int.ediv_nonneg hx0 (by omega)) hk0 hk1⟩⟩
      · refine ⟨.ref r, rfl, r, _, 3, _, rfl, rfl, SqL.of hR1, rfl, ?_⟩
        refine ⟨.int k1, rfl, .int k1, rfl, k1, k1, rfl, rfl, .inl ⟨by omega, by omega⟩, .int k1, rfl, k1, 39373, rfl, rfl, .inl ⟨by omega, by omega⟩, _, _, rfl, rfl, _, _, rfl, rfl, _, 2147483563, rfl, rfl, (show (0 : Int) < 2147483563 by decide), .ref r, rfl, r, _, 3, 3, rfl, rfl, hR1, rfl, ?_⟩
        have m0 : 0 ≤ (k1 * k1 + k1 * 39373 + 80021) % 2147483563 := Int.emod_nonneg _ (by decide)
        have m1 : (k1 * k1 + k1 * 39373 + 80021) % 2147483563 < 2147483563 := Int.emod_lt_of_pos _ (by decide)
        have R2 := R1.set (k' := (k1 * k1 + k1 * 39373 + 80021) % 2147483563) R1.i0 R1.i1 R1.x0 m0 m1
        refine ⟨.ref r, rfl, r, _, 3, _, rfl, rfl, SqL.of R2.hr, rfl, _, 61, rfl, rfl, ⟨by decide, by decide⟩, .ref r, rfl, r, _, 3, _, rfl, rfl, SqL.of R2.hr, rfl, _, 8123, rfl, rfl, (show (0 : Int) < 8123 by decide), _, 223, rfl, rfl, .inr ⟨by decide, by decide⟩, _, _, rfl, rfl, .int q, rfl, _, q, rfl, rfl, q0, ?_⟩
        exact w _ _ (Int.emod_nonneg _ (by omega)) (Int.emod_lt_of_pos _ q0) (kp.trans (Kp.at hR1)) ⟨c, ns, i1, x1, _, R2⟩
end
section
variable {P : Program} {w : World} {K : PySem.W.Frag} {mg : Str → Option Value} {base : Heap} {a : Ad}
/-- what may be chosen from: a list, a tuple, a text -/
def Pick (K : PySem.W.Frag) (H : Hp) (r : Addr) (v : V) (items : List V) : Prop := (∃ p, v = .ref p ∧ p ≠ r ∧ (SqL K H p items ∨ SqT K H p items)) ∨ ∃ z : Str, v = .str z ∧ items = z.cps.toList.map fun c => V.str ⟨#[c]⟩
def sp_l_choice (K : PySem.W.Frag) : Sp := fun vs H Q _ => ∃ (r : Addr) (v : V) (items : List V), vs = [.ref r, v] ∧ Rg H r ∧ Pick K H r v items ∧ 0 < items.length ∧ items.length ≤ 100000 ∧ ∀ x ∈ items, ∀ H', Kp r H H' → Rg H' r → Q x H'
theorem at_int {α : Type} {xs : List α} {i : Int} (h0 : 0 ≤ i) (h1 : i < (xs.length : Int)) : ∃ x, atI xs i = some x ∧ x ∈ xs := by
  have e : i = ((i.toNat : Nat) : Int) := by omega
  have l : i.toNat < xs.length := by omega
  refine ⟨xs[i.toNat], ?_, List.getElem_mem l⟩
  have h : atI xs ((i.toNat : Nat) : Int) = some xs[i.toNat] := atI_nat (by simp [l])
  rw [← e] at h
  exact h

theorem ok_l_choice (T : Txt K mg a) : FnOk P w K mg base CX0 2 a.f_l_choice a.fd_l_choice ["_law_rng", "_law_some"] (sp_l_choice K) := by
  have G_l_draw := ok_l_draw (P := P) (w := w) (base := base) T
  refine T.F_l_choice.ok sc_l_choice (fun vs H Q E h => ?_) (fun cdv A outer s H vs Q E hr h => ?_)
  · obtain ⟨r, v, items, rfl, _⟩ := h
    rfl
  · obtain ⟨r, v, items, rfl, R, pk, l0, l1, w⟩ := h
    refine ⟨_, (pss_one (ps_ret (pe_ix ix_seq (pv 1) (pe_call G_l_draw (hr.mono (by first | decide | omega)) (by rfl) T.g_l_draw T.F_l_draw.kp T.b_l_draw .nil pass0 (pa_cons (pv 0) (pa_cons (pe_callB call_len (by rfl) T.n_len (by decide +kernel) (pa_cons (pv 1) pa_nil)) pa_nil))) (fun _ _ => rfl)))), ?_⟩
    have n0 : (0 : Int) < (items.length : Int) := by omega
    have n1 : (items.length : Int) < 2 ^ 64 := by omega
    rcases pk with ⟨p, rfl, np, hp⟩ | ⟨z, rfl, hz⟩
    · refine ⟨.ref p, rfl, .ref r, rfl, .ref p, rfl, .ref p, items.length, rfl, ?_, r, _, rfl, R, n0, n1, fun j H' j0 j1 kp R' => ?_⟩
      · rcases hp with hp | hp
        · exact .inl ⟨_, hp, rfl⟩
        · exact .inr ⟨_, hp, rfl⟩
      · obtain ⟨x, hx, hm⟩ := at_int (xs := items) j0 j1
        rcases hp with hp | hp
        · exact .inl ⟨p, items, j, x, rfl, rfl, kp.L np hp, hx, w x hm H' kp R'⟩
        · exact .inr (.inl ⟨p, items, j, x, rfl, rfl, kp.T np hp, hx, w x hm H' kp R'⟩)
    · have hl : z.cps.toList.length = items.length := by rw [hz]; simp
      have hl2 : z.length = items.length := by rw [← hl]; simp [Str.length]
      refine ⟨.str z, rfl, .ref r, rfl, .str z, rfl, .str z, items.length, rfl, ⟨by rw [hl2]; exact sz l1, hl2.symm⟩, r, _, rfl, R, n0, n1, fun j H' j0 j1 kp R' => ?_⟩
      obtain ⟨c, hx, hm⟩ := at_int (xs := z.cps.toList) j0 (by rw [hl]; exact j1)
      exact .inr (.inr ⟨z, j, c, rfl, rfl, by rw [hl2]; exact sz l1, hx, w _ (by rw [hz]; exact List.mem_map.mpr ⟨c, hm, rfl⟩) H' kp R'⟩)
end
section
variable {P : Program} {w : World} {K : PySem.W.Frag} {mg : Str → Option Value} {base : Heap} {a : Ad}
/-- equal data of depth below n: True -/
def spEq (K : PySem.W.Frag) : Nat → Sp
  | 0 => fun _ _ _ _ => False
  | n + 1 => fun vs H Q _ => ∃ x y, vs = [x, y] ∧ Eqd K H n x y ∧ ∀ H', Same H H' → Q (.bl true) H'
def sp_l_equal (K : PySem.W.Frag) : Sp := spEq K 21

theorem ok_l_equal_n (T : Txt K mg a) : ∀ n, FnOk P w K mg base CX0 n a.f_l_equal a.fd_l_equal ["_law_result", "_law_expected"] (spEq K n)
  | 0 => fn_false
  | n + 1 => by
    have G_l_equal := ok_l_equal_n T n
    refine T.F_l_equal.ok sc_l_equal (fun vs H Q E h => ?_) (fun cdv A outer s H vs Q E hr h => ?_)
    · obtain ⟨x, y, rfl, _⟩ := h
      rfl
    obtain ⟨x, y, rfl, hE, w⟩ := h
    refine ⟨_, (pss_cons (ps_if (pt_cmpR op_isN (pv 1) pe_non (nomark _)) (pss_one (ps_ret (pe_cmpR op_isN (pv 0) pe_non (nomark _)))) pss_nil)
      (pss_cons (ps_if (PW.pt (pw_or (pt_val (pe_callB call_isi (by rfl) T.n_isinstance (by decide +kernel) (pa_cons (pv 1) (pa_cons (pe_bltn (v := .ty "list") (by rfl) T.n_list (by decide +kernel) rfl) pa_nil)))) (pw_or1 (pt_val (pe_callB call_isi (by rfl) T.n_isinstance (by decide +kernel) (pa_cons (pv 1) (pa_cons (pe_bltn (v := .ty "tuple") (by rfl) T.n_tuple (by decide +kernel) rfl) pa_nil))))))) (pss_cons (ps_if (PW.pt (pw_or (pt_cmpR op_ne (pe_callB call_isi (by rfl) T.n_isinstance (by decide +kernel) (pa_cons (pv 0) (pa_cons (pe_bltn (v := .ty "list") (by rfl) T.n_list (by decide +kernel) rfl) pa_nil))) (pe_callB call_isi (by rfl) T.n_isinstance (by decide +kernel) (pa_cons (pv 1) (pa_cons (pe_bltn (v := .ty "list") (by rfl) T.n_list (by decide +kernel) rfl) pa_nil))) (nomark _)) (pw_or1 (pt_cmpR op_ne (pe_callB call_isi (by rfl) T.n_isinstance (by decide +kernel) (pa_cons (pv 0) (pa_cons (pe_bltn (v := .ty "tuple") (by rfl) T.n_tuple (by decide +kernel) rfl) pa_nil))) (pe_callB call_isi (by rfl) T.n_isinstance (by decide +kernel) (pa_cons (pv 1) (pa_cons (pe_bltn (v := .ty "tuple") (by rfl) T.n_tuple (by decide +kernel) rfl) pa_nil))) (nomark _))))) (pss_one (ps_ret pe_bl)) pss_nil)
      (pss_one (ps_ret (pe_and (pe_cmpR op_eq (pe_callB call_len (by rfl) T.n_len (by decide +kernel) (pa_cons (pv 0) pa_nil)) (pe_callB call_len (by rfl) T.n_len (by decide +kernel) (pa_cons (pv 1) pa_nil)) (nomark _)) (pe_one (pe_callB (cr_all rfl) (by rfl) T.n_all (by decide +kernel) (pa_cons (pe_lc (own := [("_law_one", 2), ("_law_other", 3)]) (g := gTup K 2 (gCons (gName 2) (gCons (gName 3) gNil))) rfl sc_l_equal.nd (RZ.pi_zipA (by rfl) T.n_zip (pa_cons (pv 0) (pa_cons (pv 1) pa_nil))) (blkOk_by (own := [("_law_one", 2), ("_law_other", 3)]) (N := ["_law_result", "_law_expected", "_law_one", "_law_other"]) (sc := defScope s_l_equal) (by decide +kernel)) (fun _ _ _ _ _ => (pg_tup rfl (pgs_cons (pg_name (i := 2) sc_l_equal.nd rfl (Or.inl rfl)) (pgs_cons (pg_name (i := 3) sc_l_equal.nd rfl (Or.inl rfl)) pgs_nil)))) (fun _ _ _ _ _ => pts_nil) (fun _ _ _ _ _ => (pe_call G_l_equal (hr.mono (by first | decide | omega)) (by rfl) T.g_l_equal T.F_l_equal.kp T.b_l_equal .nil pass0 (pa_cons (pv 2) (pa_cons (pv 3) pa_nil))))) pa_nil))))))) pss_nil)
      (pss_cons (ps_if (PW.pt (pw_or (pt_cmpR op_ne (pe_callB call_isi (by rfl) T.n_isinstance (by decide +kernel) (pa_cons (pv 1) (pa_cons (pe_bltn (v := .ty "bool") (by rfl) T.n_bool (by decide +kernel) rfl) pa_nil))) (pe_callB call_isi (by rfl) T.n_isinstance (by decide +kernel) (pa_cons (pv 0) (pa_cons (pe_bltn (v := .ty "bool") (by rfl) T.n_bool (by decide +kernel) rfl) pa_nil))) (nomark _)) (pw_or1 (pt_cmpR op_ne (pe_callB call_isi (by rfl) T.n_isinstance (by decide +kernel) (pa_cons (pv 1) (pa_cons (pe_bltn (v := .ty "int") (by rfl) T.n_int (by decide +kernel) rfl) pa_nil))) (pe_callB call_isi (by rfl) T.n_isinstance (by decide +kernel) (pa_cons (pv 0) (pa_cons (pe_bltn (v := .ty "int") (by rfl) T.n_int (by decide +kernel) rfl) pa_nil))) (nomark _))))) (pss_one (ps_ret pe_bl)) pss_nil)
      (pss_one (ps_ret (pe_and (pe_cmpR op_eq (pe_callB call_isi (by rfl) T.n_isinstance (by decide +kernel) (pa_cons (pv 0) (pa_cons (pe_bltn (v := .ty "str") (by rfl) T.n_str (by decide +kernel) rfl) pa_nil))) (pe_callB call_isi (by rfl) T.n_isinstance (by decide +kernel) (pa_cons (pv 1) (pa_cons (pe_bltn (v := .ty "str") (by rfl) T.n_str (by decide +kernel) rfl) pa_nil))) (nomark _)) (pe_one (pe_cmpR op_eq (pv 0) (pv 1) (nomark _))))))))), ?_⟩
    by_cases hq : x = y ∧ atom x = true
    · obtain ⟨rfl, hat⟩ := hq
      by_cases hn : x = .non
      · subst hn
        exact ⟨.non, rfl, rfl, _, rfl, ifT (decide_eq_true rfl) ⟨.non, rfl, rfl, by rw [decide_eq_true rfl]; exact w H (Same.refl H)⟩⟩
      · obtain ⟨t, b1, b2, b3, ty, hl, ht, bb, bi, bs, sc⟩ : ∃ (t : String) (b1 b2 b3 : Bool), TyX K H x (.type t) ∧ kitB t "list" = some false ∧ kitB t "tuple" = some false ∧ kitB t "bool" = some b1 ∧ kitB t "int" = some b2 ∧ kitB t "str" = some b3 ∧ scal x x = true := by
          cases x with
          | non => exact absurd rfl hn
          | bl b => exact ⟨"bool", true, true, false, .base (.bl b), by decide +kernel, by decide +kernel, by decide +kernel, by decide +kernel, by decide +kernel, rfl⟩
          | int i => exact ⟨"int", false, true, false, .base (.int i), by decide +kernel, by decide +kernel, by decide +kernel, by decide +kernel, by decide +kernel, rfl⟩
          | str z => exact ⟨"str", false, false, true, .base (.str z), by decide +kernel, by decide +kernel, by decide +kernel, by decide +kernel, by decide +kernel, rfl⟩
          | _ => cases hat
        refine ⟨x, rfl, rfl, _, rfl, ifF (decide_eq_false hn) ?_⟩
        refine ⟨x, rfl, _, _, _, _, _, rfl, .ty _, ty, kit_ty hl, false, rfl, iteF ⟨x, rfl, _, _, _, _, _, rfl, .ty _, ty, kit_ty ht, false, rfl, iteF ?_⟩⟩
        refine ⟨x, rfl, _, _, _, _, _, rfl, .ty _, ty, kit_ty bb, x, rfl, _, _, _, _, _, rfl, .ty _, ty, kit_ty bb, rfl, _, rfl, iteNS rfl ⟨x, rfl, _, _, _, _, _, rfl, .ty _, ty, kit_ty bi, x, rfl, _, _, _, _, _, rfl, .ty _, ty, kit_ty bi, rfl, _, rfl, iteNS rfl ?_⟩⟩
        refine ⟨x, rfl, _, _, _, _, _, rfl, .ty _, ty, kit_ty bs, x, rfl, _, _, _, _, _, rfl, .ty _, ty, kit_ty bs, rfl, _, rfl, ifT (decide_eq_true rfl) ⟨x, rfl, x, rfl, sc, ?_⟩⟩
        rw [decide_eq_true rfl]
        exact w H (Same.refl H)
    cases n with
    | zero => exact absurd hE hq
    | succ n =>
      rcases hE with hE | ⟨p, q, xs, ys, rfl, rfl, hS, hl, hl2, hk⟩
      · exact absurd hE hq
      have nn : ∀ q : Addr, decide (V.ref q = V.non) = false := fun q => decide_eq_false (fun z => nomatch z)
      refine ⟨.ref q, rfl, rfl, _, rfl, ifF (nn q) ?_⟩
      -- one turn of the comprehension, for lists and for tuples alike
      have turn : ∀ (D : Addr) (H1 : Hp) (i : Nat) (u v : V) (N : Hp → Prop), H D = none → Same H H1 → H1 D = some (.lst ((List.replicate i true).map V.bl)) → i < xs.length → xs[i]? = some u → ys[i]? = some v →
          (∀ H2, Same H H2 → H2 D = some (.lst ((List.replicate (i + 1) true).map V.bl)) → N H2) → spEq K (n + 1) [u, v] H1 (fun y H4 => ∃ acc, H4 D = some (.lst acc) ∧ acc.length < sizeLine ∧ N (upd H4 D (.lst (acc ++ [y])))) E0 := by
        intro D H1 i u v N nD s1 hD hi hu hv hN
        refine ⟨u, v, rfl, (hk i u v hu hv).same s1, fun H4 s4 => ⟨_, s4 _ _ hD, by rw [List.length_map, List.length_replicate]; exact szl (by omega), hN _ (fun b o e => ?_) ?_⟩⟩
        · rw [upd_ne (ne_of_none e nD)]
          exact s4 _ _ (s1 _ _ e)
        · rw [upd_same, List.replicate_succ', List.map_append]
          rfl
      have fin : ∀ (D : Addr) (H1 : Hp), Same H H1 → H1 D = some (.lst ((List.replicate xs.length true).map V.bl)) → rAll K [V.ref D] H1 Q := fun D H1 s1 hD =>
        ⟨D, List.replicate xs.length true, rfl, SqL.of hD, by
          rw [show (List.replicate xs.length true).all id = true by simp]
          exact w H1 s1⟩
      rcases hS with ⟨ha, hb⟩ | ⟨ha, hb⟩
      · refine ⟨.ref q, rfl, _, _, _, _, true, rfl, .ty _, tyL hb, kit_ty (by decide +kernel), true, rfl, iteT (iteT ?_)⟩
        refine ⟨.ref p, rfl, _, _, _, _, true, rfl, .ty _, tyL ha, kit_ty (by decide +kernel), .ref q, rfl, _, _, _, _, true, rfl, .ty _, tyL hb, kit_ty (by decide +kernel), rfl, _, rfl, iteNS rfl ?_⟩
        refine ⟨.ref p, rfl, _, _, _, _, false, rfl, .ty _, tyL ha, kit_ty (by decide +kernel), .ref q, rfl, _, _, _, _, false, rfl, .ty _, tyL hb, kit_ty (by decide +kernel), rfl, _, rfl, iteNS rfl ?_⟩
        refine ⟨.ref p, rfl, .ref p, xs.length, rfl, .inl ⟨_, ha, rfl⟩, .ref q, rfl, .ref q, ys.length, rfl, .inl ⟨_, hb, rfl⟩, rfl, _, rfl, ifT (decide_eq_true (by rw [hl])) ?_⟩
        refine ⟨.ref p, rfl, .ref q, rfl, p, q, xs, ys, rfl, .inl ⟨ha, hb, fun D nD => ?_⟩⟩
        refine ⟨fun i m H1 => i + m = xs.length ∧ Same H H1 ∧ H1 D = some (.lst ((List.replicate i true).map V.bl)), ⟨xs.length, by omega, Same.new nD, upd_same⟩, fun i m H1 hW => ?_⟩
        obtain ⟨em, s1, hD⟩ := hW
        by_cases hi : i < xs.length
        · refine .inr ⟨⟨xs, ys, xs[i], ys[i]'(by omega), s1.seq ha, s1.seq hb, List.getElem?_eq_getElem hi, List.getElem?_eq_getElem (by omega)⟩, fun H2 => Same H H2 ∧ H2 D = some (.lst ((List.replicate (i + 1) true).map V.bl)), fun H2 hN => ⟨m - 1, by omega, by omega, hN.1, hN.2⟩, fun v H2 hy => ?_⟩
          obtain ⟨tt, u1, u2, rfl, nT, rfl, f1, f2⟩ := hy
          refine ⟨tt, [u1, u2], rfl, SqT.of upd_same, rfl, u1, [u2], rfl, u2, [], rfl, rfl, rfl, ?_⟩
          refine tYes_if ?_
          refine ⟨u1, rfl, u2, rfl, turn D (upd H1 tt (.tup [u1, u2])) i u1 u2 (fun H2 => Same H H2 ∧ H2 D = some (.lst ((List.replicate (i + 1) true).map V.bl))) nD (s1.trans (Same.new nT)) ?_ hi (f1 _ (s1.seq ha)) (f2 _ (s1.seq hb)) fun H2 a b => ⟨a, b⟩⟩
          rw [upd_ne (ne_of_none hD nT)]
          exact hD
        · have ei : i = xs.length := by omega
          subst ei
          exact .inl ⟨⟨xs, ys, s1.seq ha, s1.seq hb, .inl (Nat.le_refl _)⟩, fin D H1 s1 hD⟩
      · refine ⟨.ref q, rfl, _, _, _, _, false, rfl, .ty _, tyT hb, kit_ty (by decide +kernel), false, rfl, iteF ⟨.ref q, rfl, _, _, _, _, true, rfl, .ty _, tyT hb, kit_ty (by decide +kernel), true, rfl, iteT ?_⟩⟩
        refine ⟨.ref p, rfl, _, _, _, _, false, rfl, .ty _, tyT ha, kit_ty (by decide +kernel), .ref q, rfl, _, _, _, _, false, rfl, .ty _, tyT hb, kit_ty (by decide +kernel), rfl, _, rfl, iteNS rfl ?_⟩
        refine ⟨.ref p, rfl, _, _, _, _, true, rfl, .ty _, tyT ha, kit_ty (by decide +kernel), .ref q, rfl, _, _, _, _, true, rfl, .ty _, tyT hb, kit_ty (by decide +kernel), rfl, _, rfl, iteNS rfl ?_⟩
        refine ⟨.ref p, rfl, .ref p, xs.length, rfl, .inr ⟨_, ha, rfl⟩, .ref q, rfl, .ref q, ys.length, rfl, .inr ⟨_, hb, rfl⟩, rfl, _, rfl, ifT (decide_eq_true (by rw [hl])) ?_⟩
        refine ⟨.ref p, rfl, .ref q, rfl, p, q, xs, ys, rfl, .inr ⟨ha, hb, fun D nD => ?_⟩⟩
        refine ⟨fun i m H1 => i + m = xs.length ∧ Same H H1 ∧ H1 D = some (.lst ((List.replicate i true).map V.bl)), ⟨xs.length, by omega, Same.new nD, upd_same⟩, fun i m H1 hW => ?_⟩
        obtain ⟨em, s1, hD⟩ := hW
        by_cases hi : i < xs.length
        · refine .inr ⟨⟨xs, ys, xs[i], ys[i]'(by omega), Same.T s1 ha, Same.T s1 hb, List.getElem?_eq_getElem hi, List.getElem?_eq_getElem (by omega)⟩, fun H2 => Same H H2 ∧ H2 D = some (.lst ((List.replicate (i + 1) true).map V.bl)), fun H2 hN => ⟨m - 1, by omega, by omega, hN.1, hN.2⟩, fun v H2 hy => ?_⟩
          obtain ⟨tt, u1, u2, rfl, nT, rfl, f1, f2⟩ := hy
          refine ⟨tt, [u1, u2], rfl, SqT.of upd_same, rfl, u1, [u2], rfl, u2, [], rfl, rfl, rfl, ?_⟩
          refine tYes_if ?_
          refine ⟨u1, rfl, u2, rfl, turn D (upd H1 tt (.tup [u1, u2])) i u1 u2 (fun H2 => Same H H2 ∧ H2 D = some (.lst ((List.replicate (i + 1) true).map V.bl))) nD (s1.trans (Same.new nT)) ?_ hi (f1 _ (Same.T s1 ha)) (f2 _ (Same.T s1 hb)) fun H2 a b => ⟨a, b⟩⟩
          rw [upd_ne (ne_of_none hD nT)]
          exact hD
        · have ei : i = xs.length := by omega
          subst ei
          exact .inl ⟨⟨xs, ys, Same.T s1 ha, Same.T s1 hb, .inl (Nat.le_refl _)⟩, fin D H1 s1 hD⟩
theorem ok_l_equal (T : Txt K mg a) : FnOk P w K mg base CX0 21 a.f_l_equal a.fd_l_equal ["_law_result", "_law_expected"] (sp_l_equal K) := ok_l_equal_n T 21
end
section
variable {P : Program} {w : World} {K : PySem.W.Frag} {mg : Str → Option Value} {base : Heap} {a : Ad}
def sp_l_reduce (_ : PySem.W.Frag) : Sp := fun vs H Q _ => ∃ (n d : Int), vs = [.int n, .int d] ∧ d ≠ 0 ∧ d.natAbs < 2 ^ 8000 ∧ ∀ p, H p = none → Q (.ref p) (upd H p (.tup [.int (red n d).1, .int (red n d).2]))

theorem ok_l_reduce (T : Txt K mg a) : FnOk P w K mg base CX0 1 a.f_l_reduce a.fd_l_reduce ["_law_num", "_law_den"] (sp_l_reduce K) := by
  refine T.F_l_reduce.ok sc_l_reduce (fun vs H Q E h => ?_) (fun cdv A outer s H vs Q E hr h => ?_)
  · obtain ⟨n, d, rfl, _⟩ := h
    rfl
  · obtain ⟨n, d, rfl, hd, dB, w⟩ := h
    refine ⟨_, (pss_cons (ps_par (i := 2) (j := 3) (by rfl) sc_l_reduce.nd rfl rfl (by decide) rfl rfl (pa_cons (pe_callB call_abs (by rfl) T.n_abs (by decide +kernel) (pa_cons (pv 0) pa_nil)) (pa_cons (pe_callB call_abs (by rfl) T.n_abs (by decide +kernel) (pa_cons (pv 1) pa_nil)) pa_nil)) (by rfl))
          (pss_cons (ps_while PassesOwn.never (pt_cmpR op_ne (pv 3) pe_int (nomark _)) (pss_one (ps_par (i := 2) (j := 3) (by rfl) sc_l_reduce.nd rfl rfl (by decide) rfl rfl (pa_cons (pv 3) (pa_cons (pe_op op_mod (pv 2) (pv 3)) pa_nil)) (by rfl))))
          (pss_cons (ps_set (i := 4) sc_l_reduce.nd rfl (by first | exact Or.inl rfl | exact Or.inr rfl) (pe_ifExp (pt_cmpR op_gt (pv 1) pe_int (nomark _)) pe_int (pe_un un_neg pe_int)))
          (pss_one (ps_ret (pe_tup (pa_cons (pe_op op_fdivW (pe_op op_mul (pv 4) (pv 0)) (pv 2)) (pa_cons (pe_op op_fdivW (pe_op op_mul (pv 4) (pv 1)) (pv 2)) pa_nil)))))))), ?_⟩
    refine ⟨.int n, rfl, n, rfl, .int d, rfl, d, rfl, _, _, rfl, ?_⟩
    refine ⟨fun m σ H' => ∃ x y : Int, σ = [some (.int n), some (.int d), some (.int x), some (.int y), none] ∧ 0 ≤ x ∧ 0 ≤ y ∧ Int.gcd x y = Int.gcd n d ∧ m = y.toNat ∧ H' = H, ⟨_, _, _, rfl, ?_, ?_, ?_, rfl, rfl⟩, ?_⟩
    · split <;> omega
    · split <;> omega
    · rw [Int.gcd_eq_natAbs_gcd_natAbs, Int.gcd_eq_natAbs_gcd_natAbs]
      congr 1
      · split <;> omega
      · split <;> omega
    rintro m σ H' ⟨x, y, rfl, x0, y0, hg, rfl, hH⟩
    obtain rfl : H = H' := hH.symm
    refine ⟨.int y, rfl, rfl, _, rfl, ite2 (fun e => ?_) (fun e => ?_)⟩
    · have y1 : y ≠ 0 := fun z => by subst z; simp at e
      refine ⟨fun σ' H' => σ' = [some (.int n), some (.int d), some (.int y), some (.int (x % y)), none] ∧ H' = H, ?_, ?_⟩
      · rintro σ' H' ⟨rfl, rfl⟩
        have h1 : 0 ≤ x % y := Int.emod_nonneg _ y1
        have h2 : x % y < y := Int.emod_lt_of_pos _ (by omega)
        exact ⟨(x % y).toNat, by omega, y, x % y, rfl, y0, h1, by rw [gcd_step x0 y0]; exact hg, rfl, rfl⟩
      · exact ⟨.int y, rfl, .int x, rfl, .int y, rfl, x, y, rfl, rfl, (show (0 : Int) < y by omega), _, _, rfl, rfl, rfl⟩
    · have y1 : y = 0 := by
        by_cases z : y = 0
        · exact z
        · exfalso; apply e; simp [z]
      subst y1
      have hx : x = (Int.gcd n d : Int) := by
        rw [← hg, Int.gcd_zero_right]
        omega
      have hp : 0 < x := by rw [hx]; exact gcd_posI hd
      have hB : x.natAbs < 2 ^ 8000 := by
        refine Nat.lt_of_le_of_lt ?_ dB
        have : Int.gcd n d ∣ d.natAbs := Nat.gcd_dvd_right _ _
        have := Nat.le_of_dvd (by omega) this
        omega
      have hdiv : ∀ i, CDivW i x := fun i => wide_div (b := 8000) hp hB (by decide) (by decide)
      refine ⟨.int d, rfl, d, 0, rfl, rfl, _, rfl, ?_⟩
      have fin : ∀ s : Int, s = 1 ∨ s = -1 → s = (if d > 0 then 1 else -1) → (tRet (tTup (tCons (tOp (rI CDivW fun i j => .int (i / j)) (tOp (rI CMul fun i j => .int (i * j)) (tVar 4) (tVar 0)) (tVar 2)) (tCons (tOp (rI CDivW fun i j => .int (i / j)) (tOp (rI CMul fun i j => .int (i * j)) (tVar 4) (tVar 1)) (tVar 2)) tNil)))) { nx := fun _ H' => Q .non H', rt := Q } [some (.int n), some (.int d), some (.int x), some (.int 0), some (.int s)] H := by
        intro s hs es
        refine ⟨.int s, rfl, .int n, rfl, s, n, rfl, rfl, .inl ⟨by omega, by omega⟩, .int x, rfl, _, x, rfl, rfl, hdiv _, .int s, rfl, .int d, rfl, s, d, rfl, rfl, .inl ⟨by omega, by omega⟩, .int x, rfl, _, x, rfl, rfl, hdiv _, sz (by show 2 ≤ 100000; decide), fun p np => ?_⟩
        have z := w p np
        unfold red at z
        rw [← hx, ← es] at z
        exact z
      refine ite2 (fun e2 => ?_) (fun e2 => ?_)
      · exact fin 1 (.inl rfl) (by rw [if_pos (show d > 0 from of_decide_eq_true e2)])
      · refine ⟨1, rfl, ?_⟩
        exact fin (-1) (.inr rfl) (by rw [if_neg (show ¬ d > 0 from fun z => e2 (decide_eq_true z))])
end
section
variable {P : Program} {w : World} {K : PySem.W.Frag} {mg : Str → Option Value} {base : Heap} {a : Ad}
def sp_l_add (K : PySem.W.Frag) : Sp := spAddR K

theorem ok_l_add (T : Txt K mg a) : FnOk P w K mg base CX0 2 a.f_l_add a.fd_l_add ["_law_one", "_law_other"] (sp_l_add K) := by
  have G_l_reduce := ok_l_reduce (P := P) (w := w) (base := base) T
  refine T.F_l_add.ok sc_l_add (fun vs H Q E h => ?_) (fun cdv A outer s H vs Q E hr h => ?_)
  · obtain ⟨v1, v2, x, y, rfl, _⟩ := h
    rfl
  · obtain ⟨v1, v2, qx, qy, rfl, f1, f2, w⟩ := h
    replace w : ∀ p, H p = none → Q (.ref p) (upd H p (.tup [.int (radd (ofR qx) (ofR qy)).1, .int (radd (ofR qx) (ofR qy)).2])) := by rw [radd_R]; exact w
    replace f1 : FrB K H v1 (ofR qx).1 (ofR qx).2 3900 := f1
    replace f2 : FrB K H v2 (ofR qy).1 (ofR qy).2 3900 := f2
    generalize ofR qx = x at f1 w
    generalize ofR qy = y at f2 w
    refine ⟨_, (pss_one (ps_ret (pe_call G_l_reduce (hr.mono (by first | decide | omega)) (by rfl) T.g_l_reduce T.F_l_reduce.kp T.b_l_reduce .nil pass0 (pa_cons (pe_op op_add (pe_op op_mulW (pe_ix ix_tup (pv 0) pe_int (fun _ _ => rfl)) (pe_ix ix_tup (pv 1) pe_int (fun _ _ => rfl))) (pe_op op_mulW (pe_ix ix_tup (pv 1) pe_int (fun _ _ => rfl)) (pe_ix ix_tup (pv 0) pe_int (fun _ _ => rfl)))) (pa_cons (pe_op op_mulW (pe_ix ix_tup (pv 0) pe_int (fun _ _ => rfl)) (pe_ix ix_tup (pv 1) pe_int (fun _ _ => rfl))) pa_nil))))), ?_⟩
    obtain ⟨p, rfl, hp⟩ := f1.fr
    obtain ⟨q, rfl, hq⟩ := f2.fr
    have cm : ∀ {i j : Int}, i.natAbs < 2 ^ 3900 → j.natAbs < 2 ^ 3900 → CMulW i j := fun a b => mulW a b (by decide) (by decide)
    refine ⟨.ref p, rfl, p, _, 0, _, rfl, rfl, hp, rfl, .ref q, rfl, q, _, 1, _, rfl, rfl, hq, rfl, x.1, y.2, rfl, rfl, cm f1.nB f2.dB, .ref q, rfl, q, _, 0, _, rfl, rfl, hq, rfl, .ref p, rfl, p, _, 1, _, rfl, rfl, hp, rfl, y.1, x.2, rfl, rfl, cm f2.nB f1.dB, _, _, rfl, rfl, ?_⟩
    refine ⟨.ref p, rfl, p, _, 1, _, rfl, rfl, hp, rfl, .ref q, rfl, q, _, 1, _, rfl, rfl, hq, rfl, x.2, y.2, rfl, rfl, cm f1.dB f2.dB, _, _, rfl, pos_ne f1.d0 f2.d0, ?_, fun r nr => w r nr⟩
    rw [Int.natAbs_mul]
    exact Nat.lt_of_lt_of_le (Nat.mul_lt_mul'' f1.dB f2.dB) (by rw [← Nat.pow_add]; exact Nat.pow_le_pow_right (by decide) (by decide))
end
section
variable {P : Program} {w : World} {K : PySem.W.Frag} {mg : Str → Option Value} {base : Heap} {a : Ad}
def sp_l_multiply (K : PySem.W.Frag) : Sp := spMulR K

theorem ok_l_multiply (T : Txt K mg a) : FnOk P w K mg base CX0 2 a.f_l_multiply a.fd_l_multiply ["_law_one", "_law_other"] (sp_l_multiply K) := by
  have G_l_reduce := ok_l_reduce (P := P) (w := w) (base := base) T
  refine T.F_l_multiply.ok sc_l_multiply (fun vs H Q E h => ?_) (fun cdv A outer s H vs Q E hr h => ?_)
  · obtain ⟨v1, v2, x, y, rfl, _⟩ := h
    rfl
  · obtain ⟨v1, v2, qx, qy, rfl, f1, f2, w⟩ := h
    replace w : ∀ p, H p = none → Q (.ref p) (upd H p (.tup [.int (red ((ofR qx).1 * (ofR qy).1) ((ofR qx).2 * (ofR qy).2)).1, .int (red ((ofR qx).1 * (ofR qy).1) ((ofR qx).2 * (ofR qy).2)).2])) := by rw [show red ((ofR qx).1 * (ofR qy).1) ((ofR qx).2 * (ofR qy).2) = ofR (qx * qy) from rmul_R qx qy]; exact w
    replace f1 : FrB K H v1 (ofR qx).1 (ofR qx).2 3900 := f1
    replace f2 : FrB K H v2 (ofR qy).1 (ofR qy).2 3900 := f2
    generalize ofR qx = x at f1 w
    generalize ofR qy = y at f2 w
    refine ⟨_, (pss_one (ps_ret (pe_call G_l_reduce (hr.mono (by first | decide | omega)) (by rfl) T.g_l_reduce T.F_l_reduce.kp T.b_l_reduce .nil pass0 (pa_cons (pe_op op_mulW (pe_ix ix_tup (pv 0) pe_int (fun _ _ => rfl)) (pe_ix ix_tup (pv 1) pe_int (fun _ _ => rfl))) (pa_cons (pe_op op_mulW (pe_ix ix_tup (pv 0) pe_int (fun _ _ => rfl)) (pe_ix ix_tup (pv 1) pe_int (fun _ _ => rfl))) pa_nil))))), ?_⟩
    obtain ⟨p, rfl, hp⟩ := f1.fr
    obtain ⟨q, rfl, hq⟩ := f2.fr
    have cm : ∀ {i j : Int}, i.natAbs < 2 ^ 3900 → j.natAbs < 2 ^ 3900 → CMulW i j := fun a b => mulW a b (by decide) (by decide)
    refine ⟨.ref p, rfl, p, _, 0, _, rfl, rfl, hp, rfl, .ref q, rfl, q, _, 0, _, rfl, rfl, hq, rfl, x.1, y.1, rfl, rfl, cm f1.nB f2.nB, ?_⟩
    refine ⟨.ref p, rfl, p, _, 1, _, rfl, rfl, hp, rfl, .ref q, rfl, q, _, 1, _, rfl, rfl, hq, rfl, x.2, y.2, rfl, rfl, cm f1.dB f2.dB, _, _, rfl, pos_ne f1.d0 f2.d0, ?_, fun r nr => w r nr⟩
    rw [Int.natAbs_mul]
    exact Nat.lt_of_lt_of_le (Nat.mul_lt_mul'' f1.dB f2.dB) (by rw [← Nat.pow_add]; exact Nat.pow_le_pow_right (by decide) (by decide))
end
section
variable {P : Program} {w : World} {K : PySem.W.Frag} {mg : Str → Option Value} {base : Heap} {a : Ad}
def sp_l_sum (K : PySem.W.Frag) : Sp := fun vs H Q _ => ∃ (p : Addr) (xs : List V) (qs : List Rat) (B C : Nat), vs = [.ref p] ∧ SqL K H p xs ∧ FRs K H xs qs C ∧ B ≤ 3900 ∧ C ≤ 3900 ∧ (∀ i, i ≤ qs.length → Bt ((qs.take i).foldl (· + ·) 0) B) ∧ ∀ v H', Same H H' → FR K H' v (qs.foldl (· + ·) 0) B → Q v H'

theorem ok_l_sum (T : Txt K mg a) : FnOk P w K mg base CX0 3 a.f_l_sum a.fd_l_sum ["_law_some"] (sp_l_sum K) := by
  have G_l_add := ok_l_add (P := P) (w := w) (base := base) T
  refine T.F_l_sum.ok sc_l_sum (fun vs H Q E h => ?_) (fun cdv A outer s H vs Q E hr h => ?_)
  · obtain ⟨p, xs, qs, B, C, rfl, _⟩ := h
    rfl
  · obtain ⟨p, xs, qs, B, C, rfl, hS, hF, hB, hC, hb, w⟩ := h
    refine ⟨_, (pss_cons (ps_set (i := 1) sc_l_sum.nd rfl (by first | exact Or.inl rfl | exact Or.inr rfl) (pe_tup (pa_cons pe_int (pa_cons pe_int pa_nil))))
          (pss_cons (ps_for PassesOwn.never rfl (pi_list (pv 0)) (pg_name (i := 2) sc_l_sum.nd rfl (by first | exact Or.inl rfl | exact Or.inr rfl)) (pss_one (ps_set (i := 1) sc_l_sum.nd rfl (by first | exact Or.inl rfl | exact Or.inr rfl) (pe_call G_l_add (hr.mono (by first | decide | omega)) (by rfl) T.g_l_add T.F_l_add.kp T.b_l_add .nil pass0 (pa_cons (pv 1) (pa_cons (pv 2) pa_nil))))))
          (pss_one (ps_ret (pv 1))))), ?_⟩
    refine ⟨sz (by show 2 ≤ 100000; decide), fun z0 nz0 => ?_⟩
    have s0 := Same.new (o := .tup [.int 0, .int 1]) nz0
    have f0 : FR K (upd H z0 (.tup [.int 0, .int 1])) (.ref z0) 0 B := FR.mk (fr_zero (SqT.of upd_same)).fr (hb 0 (Nat.zero_le _))
    have hl' := hF.len
    refine ⟨.ref p, rfl, p, rfl, ⟨_, s0.seq hS⟩, for_list (K := K) (a := p) (xs := xs) (fun i σ H' => ∃ v y, σ = [some (.ref p), some v, y] ∧ Same H H' ∧ FR K H' v ((qs.take i).foldl (· + ·) 0) B) ⟨_, none, rfl, s0, f0⟩ (fun i σ H' _ ⟨_, _, _, s1, _⟩ => s1.seq hS) ?_ ?_⟩
    · rintro i x σ H1 hx ⟨v, y, rfl, s1, fv⟩
      have hi : i < xs.length := (List.getElem?_eq_some_iff.mp hx).1
      obtain ⟨q, hq, fq⟩ := hF.get hx
      refine ⟨v, rfl, x, rfl, v, x, _, q, rfl, fv.up hB, (fq.same s1).up hC, fun r nr => ⟨_, _, rfl, s1.trans (Same.new nr), ?_⟩⟩
      have hn := hb (i + 1) (by omega)
      rw [sum_more hq] at hn ⊢
      exact FR.new hn
    · rintro σ H1 ⟨v, y, rfl, s1, fv⟩
      rw [hl', List.take_length] at fv
      exact ⟨v, rfl, w v H1 s1 fv⟩
end
section
variable {P : Program} {w : World} {K : PySem.W.Frag} {mg : Str → Option Value} {base : Heap} {a : Ad}
def sp_l_small (K : PySem.W.Frag) : Sp := fun vs H Q _ => ∃ (r : Addr), vs = [.ref r] ∧ Rg H r ∧ ∀ v H' n d, Kp r H H' → Rg H' r → FrB K H' v n d 5 → d ∣ 12 → Q v H'

theorem ok_l_small (T : Txt K mg a) : FnOk P w K mg base CX0 3 a.f_l_small a.fd_l_small ["_law_rng"] (sp_l_small K) := by
  have G_l_reduce := ok_l_reduce (P := P) (w := w) (base := base) T
  have G_l_choice := ok_l_choice (P := P) (w := w) (base := base) T
  have G_l_draw := ok_l_draw (P := P) (w := w) (base := base) T
  refine T.F_l_small.ok sc_l_small (fun vs H Q E h => ?_) (fun cdv A outer s H vs Q E hr h => ?_)
  · obtain ⟨r, rfl, _⟩ := h
    rfl
  · obtain ⟨r, rfl, R, w⟩ := h
    refine ⟨_, (pss_one (ps_ret (pe_call G_l_reduce (hr.mono (by first | decide | omega)) (by rfl) T.g_l_reduce T.F_l_reduce.kp T.b_l_reduce .nil pass0 (pa_cons (pe_op op_sub (pe_call G_l_draw (hr.mono (by first | decide | omega)) (by rfl) T.g_l_draw T.F_l_draw.kp T.b_l_draw .nil pass0 (pa_cons (pv 0) (pa_cons pe_int pa_nil))) pe_int) (pa_cons (pe_call G_l_choice (hr.mono (by first | decide | omega)) (by rfl) T.g_l_choice T.F_l_choice.kp T.b_l_choice .nil pass0 (pa_cons (pv 0) (pa_cons (pe_lst (pa_cons pe_int (pa_cons pe_int (pa_cons pe_int (pa_cons pe_int (pa_cons pe_int (pa_cons pe_int pa_nil))))))) pa_nil))) pa_nil))))), ?_⟩
    refine ⟨.ref r, rfl, r, 25, rfl, R, by decide, by decide, fun v H1 v0 v1 k1 R1 => ?_⟩
    refine ⟨_, _, rfl, rfl, .ref r, rfl, sz (by show 6 ≤ 100000; decide), fun l nl => ?_⟩
    have R2 : Rg (upd H1 l (.lst [.int 1, .int 1, .int 1, .int 2, .int 3, .int 4])) r := R1.same (Same.new nl)
    refine ⟨r, .ref l, _, rfl, R2, .inl ⟨l, rfl, R1.ne nl, .inl (SqL.of upd_same)⟩, by show 0 < 6; decide, by show 6 ≤ 100000; decide, fun x hx H2 k2 R3 => ?_⟩
    obtain ⟨j, rfl, j0, j1, j12⟩ : ∃ j : Int, x = .int j ∧ 0 < j ∧ j < 32 ∧ j ∣ 12 := by
      simp only [List.mem_cons, List.not_mem_nil, or_false] at hx
      rcases hx with h | h | h | h | h | h
      · exact ⟨1, h, by decide, by decide, by decide⟩
      · exact ⟨1, h, by decide, by decide, by decide⟩
      · exact ⟨1, h, by decide, by decide, by decide⟩
      · exact ⟨2, h, by decide, by decide, by decide⟩
      · exact ⟨3, h, by decide, by decide, by decide⟩
      · exact ⟨4, h, by decide, by decide, by decide⟩
    have hB : (2 : Nat) ^ 5 = 32 := by decide
    refine ⟨v - 8, j, rfl, by omega, Nat.lt_of_lt_of_le (show j.natAbs < 2 ^ 5 by omega) (Nat.pow_le_pow_right (by decide) (by decide)), fun p np => ?_⟩
    have k3 := k1.trans ((Kp.of (Same.new nl)).trans k2)
    exact w _ _ _ _ (k3.trans (Kp.of (Same.new np))) (R3.same (Same.new np)) (red_B (by omega) (by omega) (by omega)) (Int.dvd_trans (red_dvd (by omega)) j12)
end
section
variable {P : Program} {w : World} {K : PySem.W.Frag} {mg : Str → Option Value} {base : Heap} {a : Ad}
def sp_l_linear_case (K : PySem.W.Frag) : Sp := fun vs H Q _ => ∃ (r : Addr), vs = [.ref r] ∧ Rg H r ∧ ∀ (t rl tl : Addr) (xs ys : List V) (w : Nat) (H' : Hp), Kp r H H' → Rg H' r → SqT K H' t [.ref rl, .ref tl] → rl ≠ r → tl ≠ r → H' rl = some (.lst xs) → H' tl = some (.lst ys) → xs.length = ys.length → 1 ≤ xs.length → xs.length ≤ 5 → 1 ≤ w → w ≤ 5 → (∀ x ∈ xs, VecD 144 K H' 16 w [r, rl] x) → FOd 1728 K H' 130 ys → Q (.ref t) H'

theorem ok_l_linear_case (T : Txt K mg a) : FnOk P w K mg base CX0 4 a.f_l_linear_case a.fd_l_linear_case ["_law_rng"] (sp_l_linear_case K) := by
  have G_l_small := ok_l_small (P := P) (w := w) (base := base) T
  have G_l_sum := ok_l_sum (P := P) (w := w) (base := base) T
  have G_l_draw := ok_l_draw (P := P) (w := w) (base := base) T
  have G_l_choice := ok_l_choice (P := P) (w := w) (base := base) T
  have G_l_add := ok_l_add (P := P) (w := w) (base := base) T
  have G_l_multiply := ok_l_multiply (P := P) (w := w) (base := base) T
  refine T.F_l_linear_case.ok sc_l_linear_case (fun vs H Q E h => ?_) (fun cdv A outer s H vs Q E hr h => ?_)
  · obtain ⟨r, rfl, _⟩ := h
    rfl
  · obtain ⟨r, rfl, R, w⟩ := h
    refine ⟨_, (pss_cons (ps_asg (pe_tup (pa_cons (pe_op op_add pe_int (pe_call G_l_draw (hr.mono (by first | decide | omega)) (by rfl) T.g_l_draw T.F_l_draw.kp T.b_l_draw .nil pass0 (pa_cons (pv 0) (pa_cons pe_int pa_nil)))) (pa_cons (pe_op op_add pe_int (pe_call G_l_draw (hr.mono (by first | decide | omega)) (by rfl) T.g_l_draw T.F_l_draw.kp T.b_l_draw .nil pass0 (pa_cons (pv 0) (pa_cons pe_int pa_nil)))) pa_nil))) (pg_tup rfl (pgs_cons (pg_name (i := 1) sc_l_linear_case.nd rfl (by first | exact Or.inl rfl | exact Or.inr rfl)) (pgs_cons (pg_name (i := 2) sc_l_linear_case.nd rfl (by first | exact Or.inl rfl | exact Or.inr rfl)) pgs_nil))))
          (pss_cons (ps_setLc (i := 3) (own := [("_law_j", 7)]) (g := gName 7) rfl sc_l_linear_case.nd rfl rfl (sw_true rfl rfl rfl (by decide +kernel)) (pi_range1 (by rfl) T.n_range (pa_cons (pv 1) pa_nil)) (blkOk_by (own := [("_law_j", 7)]) (N := ["_law_rng", "_law_quantity", "_law_wide", "_law_my_rows", "_law_amount", "_law_met", "_law_my_targets", "_law_j", "_law_k", "_law_x", "_law_y", "_law_row"]) (sc := defScope s_l_linear_case) (by decide +kernel)) (fun _ _ _ _ _ => (pg_name (i := 7) sc_l_linear_case.nd rfl (Or.inl rfl))) (fun _ _ _ _ _ => pts_nil) (fun _ _ _ _ _ => (pe_lc (own := [("_law_k", 8)]) (g := gName 8) rfl sc_l_linear_case.nd (pi_range1 (by rfl) T.n_range (pa_cons (pv 2) pa_nil)) (blkOk_by (own := [("_law_k", 8)]) (N := ["_law_rng", "_law_quantity", "_law_wide", "_law_my_rows", "_law_amount", "_law_met", "_law_my_targets", "_law_j", "_law_k", "_law_x", "_law_y", "_law_row"]) (by kernel_rfl)) (fun _ _ _ _ _ => (pg_name (i := 8) sc_l_linear_case.nd rfl (by first | exact Or.inl rfl | exact Or.inr rfl))) (fun _ _ _ _ _ => pts_nil) (fun _ _ _ _ _ => (pe_call G_l_choice (hr.mono (by first | decide | omega)) (by rfl) T.g_l_choice T.F_l_choice.kp T.b_l_choice .nil pass0 (pa_cons (pv 0) (pa_cons (pe_lst (pa_cons (pe_tup (pa_cons pe_int (pa_cons pe_int pa_nil))) (pa_cons (pe_call G_l_small (hr.mono (by first | decide | omega)) (by rfl) T.g_l_small T.F_l_small.kp T.b_l_small .nil pass0 (pa_cons (pv 0) pa_nil)) pa_nil))) pa_nil)))))))
          (pss_cons (ps_if (PW.pt (pw_and (pt_cmpR op_gt (pv 1) pe_int (nomark _)) (pw_and1 (pt_cmpR op_eq (pe_call G_l_draw (hr.mono (by first | decide | omega)) (by rfl) T.g_l_draw T.F_l_draw.kp T.b_l_draw .nil pass0 (pa_cons (pv 0) (pa_cons pe_int pa_nil))) pe_int (nomark _))))) (pss_cons (ps_set (i := 4) sc_l_linear_case.nd rfl (by first | exact Or.inl rfl | exact Or.inr rfl) (pe_call G_l_small (hr.mono (by first | decide | omega)) (by rfl) T.g_l_small T.F_l_small.kp T.b_l_small .nil pass0 (pa_cons (pv 0) pa_nil)))
          (pss_one (ps_asg (pe_lc (own := [("_law_x", 9), ("_law_y", 10)]) (g := gTup K 2 (gCons (gName 9) (gCons (gName 10) gNil))) rfl sc_l_linear_case.nd (RZ.pi_zipA (by rfl) T.n_zip (pa_cons (pe_ix ix_list (pv 3) pe_int (fun _ _ => rfl)) (pa_cons (pe_ix ix_list (pv 3) (pe_op op_sub (pv 1) pe_int) (fun _ _ => rfl)) pa_nil))) (blkOk_by (own := [("_law_x", 9), ("_law_y", 10)]) (N := ["_law_rng", "_law_quantity", "_law_wide", "_law_my_rows", "_law_amount", "_law_met", "_law_my_targets", "_law_j", "_law_k", "_law_x", "_law_y", "_law_row"]) (sc := defScope s_l_linear_case) (by decide +kernel)) (fun _ _ _ _ _ => (pg_tup rfl (pgs_cons (pg_name (i := 9) sc_l_linear_case.nd rfl (by first | exact Or.inl rfl | exact Or.inr rfl)) (pgs_cons (pg_name (i := 10) sc_l_linear_case.nd rfl (by first | exact Or.inl rfl | exact Or.inr rfl)) pgs_nil)))) (fun _ _ _ _ _ => pts_nil) (fun _ _ _ _ _ => (pe_call G_l_add (hr.mono (by first | decide | omega)) (by rfl) T.g_l_add T.F_l_add.kp T.b_l_add .nil pass0 (pa_cons (pv 9) (pa_cons (pe_call G_l_multiply (hr.mono (by first | decide | omega)) (by rfl) T.g_l_multiply T.F_l_multiply.kp T.b_l_multiply .nil pass0 (pa_cons (pv 4) (pa_cons (pv 10) pa_nil))) pa_nil))))) (pg_sub (pv 3) (pe_call G_l_draw (hr.mono (by first | decide | omega)) (by rfl) T.g_l_draw T.F_l_draw.kp T.b_l_draw .nil pass0 (pa_cons (pv 0) (pa_cons (pv 1) pa_nil))) set_list)))) pss_nil)
          (pss_cons (ps_set (i := 5) sc_l_linear_case.nd rfl (by first | exact Or.inl rfl | exact Or.inr rfl) (pe_lc (own := [("_law_k", 8)]) (g := gName 8) rfl sc_l_linear_case.nd (pi_range1 (by rfl) T.n_range (pa_cons (pv 2) pa_nil)) (blkOk_by (own := [("_law_k", 8)]) (N := ["_law_rng", "_law_quantity", "_law_wide", "_law_my_rows", "_law_amount", "_law_met", "_law_my_targets", "_law_j", "_law_k", "_law_x", "_law_y", "_law_row"]) (sc := defScope s_l_linear_case) (by decide +kernel)) (fun _ _ _ _ _ => (pg_name (i := 8) sc_l_linear_case.nd rfl (by first | exact Or.inl rfl | exact Or.inr rfl))) (fun _ _ _ _ _ => pts_nil) (fun _ _ _ _ _ => (pe_call G_l_small (hr.mono (by first | decide | omega)) (by rfl) T.g_l_small T.F_l_small.kp T.b_l_small .nil pass0 (pa_cons (pv 0) pa_nil)))))
          (pss_cons (ps_setLc (i := 6) (own := [("_law_row", 11)]) (g := gName 11) rfl sc_l_linear_case.nd rfl rfl (sw_true rfl rfl rfl (by decide +kernel)) (pi_list (pv 3)) (blkOk_by (own := [("_law_row", 11)]) (N := ["_law_rng", "_law_quantity", "_law_wide", "_law_my_rows", "_law_amount", "_law_met", "_law_my_targets", "_law_j", "_law_k", "_law_x", "_law_y", "_law_row"]) (sc := defScope s_l_linear_case) (by decide +kernel)) (fun _ _ _ _ _ => (pg_name (i := 11) sc_l_linear_case.nd rfl (Or.inl rfl))) (fun _ _ _ _ _ => pts_nil) (fun _ _ _ _ _ => (pe_call G_l_sum (hr.mono (by first | decide | omega)) (by rfl) T.g_l_sum T.F_l_sum.kp T.b_l_sum .nil pass0 (pa_cons (pe_lc (own := [("_law_x", 9), ("_law_y", 10)]) (g := gTup K 2 (gCons (gName 9) (gCons (gName 10) gNil))) rfl sc_l_linear_case.nd (zipAK (K := K) rfl (by rfl) T.n_zip (pa_cons (pv 11) (pa_cons (pv 5) pa_nil))) (blkOk_by (own := [("_law_x", 9), ("_law_y", 10)]) (N := ["_law_rng", "_law_quantity", "_law_wide", "_law_my_rows", "_law_amount", "_law_met", "_law_my_targets", "_law_j", "_law_k", "_law_x", "_law_y", "_law_row"]) (by kernel_rfl)) (fun _ _ _ _ _ => (pg_tup rfl (pgs_cons (pg_name (i := 9) sc_l_linear_case.nd rfl (by first | exact Or.inl rfl | exact Or.inr rfl)) (pgs_cons (pg_name (i := 10) sc_l_linear_case.nd rfl (by first | exact Or.inl rfl | exact Or.inr rfl)) pgs_nil)))) (fun _ _ _ _ _ => pts_nil) (fun _ _ _ _ _ => (pe_call G_l_multiply (hr.mono (by first | decide | omega)) (by rfl) T.g_l_multiply T.F_l_multiply.kp T.b_l_multiply .nil pass0 (pa_cons (pv 9) (pa_cons (pv 10) pa_nil))))) pa_nil))))
          (pss_cons (ps_if (pt_cmpR op_eq (pe_call G_l_draw (hr.mono (by first | decide | omega)) (by rfl) T.g_l_draw T.F_l_draw.kp T.b_l_draw .nil pass0 (pa_cons (pv 0) (pa_cons pe_int pa_nil))) pe_int (nomark _)) (pss_one (ps_asg (pe_call G_l_small (hr.mono (by first | decide | omega)) (by rfl) T.g_l_small T.F_l_small.kp T.b_l_small .nil pass0 (pa_cons (pv 0) pa_nil)) (pg_sub (pv 6) (pe_call G_l_draw (hr.mono (by first | decide | omega)) (by rfl) T.g_l_draw T.F_l_draw.kp T.b_l_draw .nil pass0 (pa_cons (pv 0) (pa_cons (pv 1) pa_nil))) set_list))) pss_nil)
          (pss_one (ps_ret (pe_tup (pa_cons (pv 3) (pa_cons (pv 6) pa_nil))))))))))), ?_⟩
    refine ⟨.ref r, rfl, r, 5, rfl, R, by decide, by decide, fun d1 H1 d10 d11 k1 R1 => ⟨1, d1, rfl, rfl, ?_⟩⟩
    refine ⟨.ref r, rfl, r, 5, rfl, R1, by decide, by decide, fun d2 H2 d20 d21 k2 R2 => ⟨1, d2, rfl, rfl, ?_⟩⟩
    refine ⟨sz (by show 2 ≤ 100000; decide), fun tp ntp => ⟨tp, _, rfl, SqT.of upd_same, rfl, _, _, rfl, _, _, rfl, rfl, ?_⟩⟩
    have sP := Same.new (o := .tup [.int (1 + d1), .int (1 + d2)]) ntp
    have R3 := R2.same sP
    have k03 := (k1.trans k2).trans (Kp.of sP)
    generalize upd H2 tp (.tup [.int (1 + d1), .int (1 + d2)]) = H3 at *
    have e1 : (1 : Int) + d1 = ((1 + d1.toNat : Nat) : Int) := by omega
    have e2 : (1 : Int) + d2 = ((1 + d2.toNat : Nat) : Int) := by omega
    dsimp only
    rw [e1, e2]
    generalize hq : 1 + d1.toNat = q
    generalize hwd : 1 + d2.toNat = wd
    have q1 : 1 ≤ q ∧ q ≤ 5 := by omega
    have w1 : 1 ≤ wd ∧ wd ≤ 5 := by omega
    clear hq hwd e1 e2 ntp sP R1 R2 k1 k2 d10 d11 d20 d21
    -- the rows
    refine ⟨.int (q : Nat), rfl, (q : Int), rfl, by omega, by omega, fun D nD => ?_⟩
    have Dr : D ≠ r := R3.ne nD
    refine ⟨fun i m H4 => i + m = q ∧ Kp r H3 H4 ∧ Rg H4 r ∧ ∃ xs, H4 D = some (.lst xs) ∧ xs.length = i ∧ ∀ x ∈ xs, VecD 12 K H4 5 wd [r, D] x, ⟨q, by omega, Kp.of (Same.new nD), R3.same (Same.new nD), [], upd_same, rfl, fun j hj => by cases hj⟩, fun i m H4 hW => ?_⟩
    obtain ⟨em, k4, R4, xs, hD, xl, hX⟩ := hW
    by_cases hlt : i < q
    · refine .inr ⟨(show i < ((q : Nat) : Int).toNat by omega), fun H5 => Kp r H3 H5 ∧ Rg H5 r ∧ ∃ xs, H5 D = some (.lst xs) ∧ xs.length = i + 1 ∧ ∀ x ∈ xs, VecD 12 K H5 5 wd [r, D] x, fun H5 hN => ⟨m - 1, by omega, by omega, hN⟩, fun v H5 hy => ?_⟩
      obtain ⟨rfl, rfl⟩ := hy
      refine ⟨rfl, tYes_if ?_⟩
      refine ⟨.int (wd : Nat), rfl, (wd : Int), rfl, by omega, by omega, fun D2 nD2 => ?_⟩
      have D2r : D2 ≠ r := R4.ne nD2
      have DD2 : D ≠ D2 := ne_of_none hD nD2
      refine ⟨fun j m' H6 => j + m' = wd ∧ Kp r H5 H6 ∧ Rg H6 r ∧ ∃ zs, H6 D2 = some (.lst zs) ∧ zs.length = j ∧ FOd 12 K H6 5 zs, ⟨wd, by omega, Kp.of (Same.new nD2), R4.same (Same.new nD2), [], upd_same, rfl, FOd.nil⟩, fun j m' H6 hW => ?_⟩
      obtain ⟨em', k6, R6, zs, hD6, zl, hZ⟩ := hW
      by_cases hjt : j < wd
      · refine .inr ⟨(show j < ((wd : Nat) : Int).toNat by omega), fun H7 => Kp r H5 H7 ∧ Rg H7 r ∧ ∃ zs, H7 D2 = some (.lst zs) ∧ zs.length = j + 1 ∧ FOd 12 K H7 5 zs, fun H7 hN => ⟨m' - 1, by omega, by omega, hN⟩, fun v H7 hy => ?_⟩
        obtain ⟨rfl, rfl⟩ := hy
        refine ⟨rfl, tYes_if ?_⟩
        refine ⟨.ref r, rfl, sz (by show 2 ≤ 100000; decide), fun z0 nz0 => ?_⟩
        have s0 := Same.new (o := .tup [.int 0, .int 1]) nz0
        have f0 : FR K (upd H7 z0 (.tup [.int 0, .int 1])) (.ref z0) 0 1 := fr_zero (SqT.of upd_same)
        refine ⟨.ref r, rfl, r, rfl, R6.same s0, fun fv H8 n5 d5 k8 R8 f5 d5d => ⟨sz (by show 2 ≤ 100000; decide), fun cl ncl => ?_⟩⟩
        have sc := Same.new (o := .lst [.ref z0, fv]) ncl
        have f0' := (f0.kp (R6.same s0) k8).same sc
        have f5' := (FD.small f5 d5d).same sc
        have R9 := R8.same sc
        refine ⟨r, .ref cl, _, rfl, R9, .inl ⟨cl, rfl, R8.ne ncl, .inl (SqL.of upd_same)⟩, by show 0 < 2; decide, by show 2 ≤ 100000; decide, fun y hy H9 k9 RA => ?_⟩
        have hyf : ∃ q, FD 12 K H9 y q 5 := by
          simp only [List.mem_cons, List.not_mem_nil, or_false] at hy
          rcases hy with rfl | rfl
          · exact ⟨_, (f0'.kp R9 k9).up (by decide), DvQ.zero⟩
          · exact ⟨_, (f5'.kp R9 k9).up (by decide)⟩
        obtain ⟨qy, fy⟩ := hyf
        have k69 : Kp r H7 H9 := ((Kp.of s0).trans k8).trans ((Kp.of sc).trans k9)
        have hD9 := k69.1 _ _ D2r hD6
        refine ⟨zs, hD9, szl (by omega), (k6.trans k69).put (H := H5) nD2 D2r, R4.put nD2 (k6.trans k69) RA, zs ++ [y], upd_same, by rw [List.length_append, zl]; rfl, ?_⟩
        exact ((hZ.kp R6 k69).put hD9).snoc (fy.put hD9)
      · have ej : j = wd := by omega
        subst ej
        refine .inl ⟨(show ((j : Nat) : Int).toNat ≤ j by omega), ?_⟩
        have hD6' := k6.1 _ _ Dr hD
        refine ⟨xs, hD6', szl (by omega), (k4.trans k6).put (H := H3) nD Dr, R3.put nD (k4.trans k6) R6, xs ++ [.ref D2], upd_same, by rw [List.length_append, xl]; rfl, fun x hx => ?_⟩
        rcases List.mem_append.mp hx with h | h
        · exact ((hX x h).kp R4 k6 List.mem_cons_self).put hD6' (List.mem_cons_of_mem _ List.mem_cons_self)
        · rw [List.mem_singleton.mp h]
          refine VecD.put ⟨D2, zs, rfl, ?_, hD6, zl, hZ⟩ hD6' (List.mem_cons_of_mem _ List.mem_cons_self)
          intro hm
          rcases List.mem_cons.mp hm with e | e
          · exact D2r e
          · exact DD2 (List.mem_singleton.mp e).symm
    have ei : i = q := by omega
    subst ei
    refine .inl ⟨(show ((i : Nat) : Int).toNat ≤ i by omega), ?_⟩
    clear hlt em
    -- a row that depends on others
    dsimp only
    refine go_if3 (fun σ H' => ∃ xs y4, σ = [some (.ref r), some (.int (i : Nat)), some (.int (wd : Nat)), some (.ref D), y4, none, none, none, none, none, none, none] ∧ Kp r H3 H' ∧ Rg H' r ∧ H' D = some (.lst xs) ∧ xs.length = i ∧ ∀ x ∈ xs, VecD 144 K H' 16 wd [r, D] x) ?_ (fun DE hDE => ?_)
    rotate_left
    · have hX60 : ∀ x ∈ xs, VecD 144 K H4 16 wd [r, D] x := fun x hx => ((hX x hx).up (by decide)).dv (by decide)
      have same : DE.nx [some (.ref r), some (.int (i : Nat)), some (.int (wd : Nat)), some (.ref D), none, none, none, none, none, none, none, none] H4 := hDE _ _ ⟨xs, none, rfl, k4, R4, hD, xl, hX60⟩
      refine ⟨.int (i : Nat), rfl, (i : Int), 1, rfl, rfl, _, rfl, ite2 (fun e => ?_) (fun e => ?_)⟩
      rotate_left
      · exact ifF rfl same
      refine ⟨.ref r, rfl, r, 2, rfl, R4, by decide, by decide, fun z H5 z0 z1 k5 R5 => ⟨rfl, _, rfl, ?_⟩⟩
      have hD5 := k5.1 _ _ Dr hD
      have hX5 : ∀ x ∈ xs, VecD 12 K H5 5 wd [r, D] x := fun x hx => (hX x hx).kp R4 k5 List.mem_cons_self
      by_cases zc : z = 0
      rotate_left
      · exact ifF (decide_eq_false fun y => zc (V.int.inj y)) (hDE _ _ ⟨xs, none, rfl, k4.trans k5, R5, hD5, xl, fun x hx => ((hX5 x hx).up (by decide)).dv (by decide)⟩)
      refine ifT (decide_eq_true (by rw [zc])) ?_
      refine ⟨.ref r, rfl, r, rfl, R5, fun av H6 n5 d5 k6 R6 f5 d5d => ?_⟩
      have fa := FD.small f5 d5d
      have hD6 := k6.1 _ _ Dr hD5
      have hX6 : ∀ x ∈ xs, VecD 12 K H6 5 wd [r, D] x := fun x hx => (hX5 x hx).kp R5 k6 List.mem_cons_self
      have k46 := (k4.trans k5).trans k6
      have i2 : 1 < i := by have := of_decide_eq_true e; omega
      clear k5 k6 R5 hD5 hX5 same hX60 e
      obtain ⟨x0, h0⟩ : ∃ x, xs[0]? = some x := ⟨_, List.getElem?_eq_getElem (by omega)⟩
      obtain ⟨x1, h1⟩ : ∃ x, xs[i - 1]? = some x := ⟨_, List.getElem?_eq_getElem (by omega)⟩
      have at1 : atI xs ((i : Int) - 1) = some x1 := by rw [show (i : Int) - 1 = ((i - 1 : Nat) : Int) by omega]; exact atI_nat h1
      obtain ⟨p0, zs0, rfl, nb0, hp0, zl0, g0⟩ := hX6 x0 (List.mem_of_getElem? h0)
      obtain ⟨p1, zs1, rfl, nb1, hp1, zl1, g1⟩ := hX6 x1 (List.mem_of_getElem? h1)
      refine ⟨.ref D, rfl, D, xs, 0, .ref p0, rfl, rfl, SqL.of hD6, atI_nat (j := 0) h0, .ref D, rfl, .int (i : Nat), rfl, (i : Int), 1, rfl, rfl, D, xs, _, .ref p1, rfl, rfl, SqL.of hD6, at1, p0, p1, zs0, zs1, rfl, .inl ⟨SqL.of hp0, SqL.of hp1, fun L nL => ?_⟩⟩
      have Lr : L ≠ r := R6.ne nL
      have LD : L ≠ D := (ne_of_none hD6 nL).symm
      refine ⟨fun j m' H7 => j + m' = wd ∧ Same H6 H7 ∧ ∃ zs, H7 L = some (.lst zs) ∧ zs.length = j ∧ FOd 144 K H7 16 zs, ⟨wd, by omega, Same.new nL, [], upd_same, rfl, FOd.nil⟩, fun j m' H7 hW => ?_⟩
      obtain ⟨em', s7, zs, hL7, zl, hZ⟩ := hW
      by_cases hjt : j < wd
      · refine .inr ⟨⟨zs0, zs1, zs0[j]'(by omega), zs1[j]'(by omega), s7.seq (SqL.of hp0), s7.seq (SqL.of hp1), List.getElem?_eq_getElem _, List.getElem?_eq_getElem _⟩, fun H8 => Same H6 H8 ∧ ∃ zs, H8 L = some (.lst zs) ∧ zs.length = j + 1 ∧ FOd 144 K H8 16 zs, fun H8 hN => ⟨m' - 1, by omega, by omega, hN⟩, fun v H8 hy => ?_⟩
        obtain ⟨tt, u1, u2, rfl, nT, rfl, f1, f2⟩ := hy
        have st := Same.new (o := .tup [u1, u2]) nT
        have s8 := s7.trans st
        obtain ⟨q1, g1'⟩ := g0 u1 (List.mem_of_getElem? (f1 _ (s7.seq (SqL.of hp0))))
        obtain ⟨q2, g2'⟩ := g1 u2 (List.mem_of_getElem? (f2 _ (s7.seq (SqL.of hp1))))
        have g1' := g1'.same s8
        have g2' := g2'.same s8
        have fa8 := (fa.same s8)
        refine ⟨tt, [u1, u2], rfl, SqT.of upd_same, rfl, u1, [u2], rfl, u2, [], rfl, rfl, rfl, tYes_if ?_⟩
        refine ⟨u1, rfl, av, rfl, u2, rfl, av, u2, _, q2, rfl, fa8.1.up (by decide), g2'.1.up (by decide), fun pm npm => ?_⟩
        have sm := Same.new (o := .tup [.int (ofR (toR (n5, d5) * q2)).1, .int (ofR (toR (n5, d5) * q2)).2]) npm
        have fm := FR.new (K := K) (H := upd H7 tt (.tup [u1, u2])) (p := pm) (fa8.bt.mul g2'.bt)
        refine ⟨u1, .ref pm, q1, _, rfl, (g1'.same sm).1.up (by decide), fm.up (by decide), fun pa npa => ?_⟩
        have sa := Same.new (o := .tup [.int (ofR (q1 + toR (n5, d5) * q2)).1, .int (ofR (q1 + toR (n5, d5) * q2)).2]) npa
        have fsum := FR.new (K := K) (H := upd (upd H7 tt (.tup [u1, u2])) pm (.tup [.int (ofR (toR (n5, d5) * q2)).1, .int (ofR (toR (n5, d5) * q2)).2])) (p := pa) (B := 16) (((g1'.same sm).bt.add fm.bt).up (by decide))
        have s9 := st.trans (sm.trans sa)
        have hL9 := s9 _ _ hL7
        refine ⟨zs, hL9, szl (by omega), fun c o e => ?_, zs ++ [.ref pa], upd_same, by rw [List.length_append, zl]; rfl, ((hZ.same s9).put hL9).snoc ⟨fsum.put hL9, DvQ.add (g1'.2.up (by decide)) (DvQ.mul fa8.2 g2'.2)⟩⟩
        rw [upd_ne (ne_of_none e nL)]
        exact s9 _ _ (s7 _ _ e)
      · have ej : j = wd := by omega
        subst ej
        refine .inl ⟨⟨zs0, zs1, s7.seq (SqL.of hp0), s7.seq (SqL.of hp1), .inl (by omega)⟩, ?_⟩
        have R7 := R6.same s7
        refine ⟨.ref D, rfl, .ref r, rfl, .int (i : Nat), rfl, r, (i : Int), rfl, R7, by omega, by omega, fun z2 H8 z20 z21 k8 R8 => ?_⟩
        have k38 := k46.trans ((Kp.of s7).trans k8)
        have hD8 := k8.1 _ _ Dr (s7 _ _ hD6)
        have hL8 := k8.1 _ _ Lr hL7
        refine ⟨D, xs, z2, z2.toNat, rfl, rfl, hD8, ixN_nat (by omega) (by omega), hDE _ _ ⟨xs.set z2.toNat (.ref L), _, rfl, k38.put (H := H3) nD Dr, R3.put nD k38 R8, upd_same, by rw [List.length_set]; exact xl, fun x hx => ?_⟩⟩
        rcases List.mem_or_eq_of_mem_set hx with h | h
        · exact (((hX6 x h).same s7).kp R7 k8 List.mem_cons_self |>.up (by decide) |>.dv (by decide)).put hD8 (List.mem_cons_of_mem _ List.mem_cons_self)
        · rw [h]
          refine VecD.put ⟨L, zs, rfl, ?_, hL8, zl, hZ.kp R7 k8⟩ hD8 (List.mem_cons_of_mem _ List.mem_cons_self)
          intro hm
          rcases List.mem_cons.mp hm with e | e
          · exact Lr e
          · exact LD (List.mem_singleton.mp e)
    clear hX hD R4 k4 xl
    rintro σ H4 ⟨xs, y4, rfl, k4, R4, hD, xl, hX⟩
    -- the values that are met
    refine ⟨.int (wd : Nat), rfl, (wd : Int), rfl, by omega, by omega, fun M nM => ?_⟩
    have Mr : M ≠ r := R4.ne nM
    have DM : D ≠ M := ne_of_none hD nM
    refine ⟨fun j m H5 => j + m = wd ∧ Kp r H4 H5 ∧ Rg H5 r ∧ ∃ zs, H5 M = some (.lst zs) ∧ zs.length = j ∧ FOd 12 K H5 5 zs, ⟨wd, by omega, Kp.of (Same.new nM), R4.same (Same.new nM), [], upd_same, rfl, FOd.nil⟩, fun j m H5 hW => ?_⟩
    obtain ⟨em, k5, R5, ms, hM, ml, hMF⟩ := hW
    by_cases hjt : j < wd
    · refine .inr ⟨(show j < ((wd : Nat) : Int).toNat by omega), fun H6 => Kp r H4 H6 ∧ Rg H6 r ∧ ∃ zs, H6 M = some (.lst zs) ∧ zs.length = j + 1 ∧ FOd 12 K H6 5 zs, fun H6 hN => ⟨m - 1, by omega, by omega, hN⟩, fun v H6 hy => ?_⟩
      obtain ⟨rfl, rfl⟩ := hy
      refine ⟨rfl, tYes_if ?_⟩
      refine ⟨.ref r, rfl, r, rfl, R5, fun fv H8 n5 d5 k8 R8 f5 d5d => ?_⟩
      have hM8 := k8.1 _ _ Mr hM
      exact ⟨ms, hM8, szl (by omega), (k5.trans k8).put (H := H4) nM Mr, R4.put nM (k5.trans k8) R8, ms ++ [fv], upd_same, by rw [List.length_append, ml]; rfl, ((hMF.kp R5 k8).put hM8).snoc (((FD.small f5 d5d).up (by decide)).put hM8)⟩
    have ej : j = wd := by omega
    subst ej
    refine .inl ⟨(show ((j : Nat) : Int).toNat ≤ j by omega), ?_⟩
    have hD5 := k5.1 _ _ Dr hD
    have hX5 : ∀ x ∈ xs, VecD 144 K H5 16 j [r, D] x := fun x hx => (hX x hx).kp R4 k5 List.mem_cons_self
    have k35 := k4.trans k5
    clear hX hD k4 k5 hjt em R4 nM
    -- the targets
    refine ⟨.ref D, rfl, D, rfl, ⟨_, SqL.of hD5⟩, fun TL nTL => ?_⟩
    have TLr : TL ≠ r := R5.ne nTL
    have DTL : D ≠ TL := ne_of_none hD5 nTL
    have nTL3 : H3 TL = none := by
      cases e : H3 TL with
      | none => rfl
      | some o =>
        have := k35.1 _ _ TLr e
        rw [nTL] at this
        cases this
    have hXT : ∀ x ∈ xs, ∀ p, x = V.ref p → p ≠ TL := fun x hx p e => by
      obtain ⟨p0, zs0, e0, nb0, hp0, _⟩ := hX5 x hx
      rw [e] at e0
      cases e0
      exact ne_of_none hp0 nTL
    refine lc_list (K := K) (a := D) (xs := xs) (fun c H6 => Same H5 H6 ∧ ∃ ys, H6 TL = some (.lst ys) ∧ ys.length = c ∧ FOd 1728 K H6 130 ys) ⟨Same.new nTL, [], upd_same, rfl, FOd.nil⟩ (fun c H6 _ h6 => SqL.of (h6.1 _ _ hD5)) ?_ ?_
    · rintro c x H6 hx ⟨s6, ys, hT6, yl, hY⟩
      have cl := (List.getElem?_eq_some_iff.mp hx).1
      obtain ⟨p0, zs0, rfl, nb0, hp0, zl0, g0⟩ := (hX5 x (List.mem_of_getElem? hx)).same s6
      have hM6 := s6 _ _ hM
      refine ⟨rfl, tYes_if ?_⟩
      refine ⟨.ref p0, rfl, .ref M, rfl, p0, M, zs0, ms, rfl, .inl ⟨SqL.of hp0, SqL.of hM6, fun L nL => ?_⟩⟩
      refine ⟨fun b m' H7 => b + m' = j ∧ Same H6 H7 ∧ ∃ zs qs, H7 L = some (.lst zs) ∧ zs.length = b ∧ FRs K H7 zs qs 21 ∧ (∀ q ∈ qs, DvQ 1728 q), ⟨j, by omega, Same.new nL, [], [], upd_same, rfl, FRs.nil, fun q hq => by cases hq⟩, fun b m' H7 hW => ?_⟩
      obtain ⟨em', s7, zs, qs, hL7, zl, hZ, hZ2⟩ := hW
      by_cases hbt : b < j
      · refine .inr ⟨⟨zs0, ms, zs0[b]'(by omega), ms[b]'(by omega), s7.seq (SqL.of hp0), s7.seq (SqL.of hM6), List.getElem?_eq_getElem _, List.getElem?_eq_getElem _⟩, fun H8 => Same H6 H8 ∧ ∃ zs qs, H8 L = some (.lst zs) ∧ zs.length = b + 1 ∧ FRs K H8 zs qs 21 ∧ (∀ q ∈ qs, DvQ 1728 q), fun H8 hN => ⟨m' - 1, by omega, by omega, hN⟩, fun v H8 hy => ?_⟩
        obtain ⟨tt, u1, u2, rfl, nT, rfl, f1, f2⟩ := hy
        have st := Same.new (o := .tup [u1, u2]) nT
        obtain ⟨q1, g1'⟩ := g0 u1 (List.mem_of_getElem? (f1 _ (s7.seq (SqL.of hp0))))
        obtain ⟨q2, g2'⟩ := hMF u2 (List.mem_of_getElem? (f2 _ (s7.seq (SqL.of hM6))))
        have g1' := g1'.same (s7.trans st)
        have g2' := g2'.same (s6.trans (s7.trans st))
        refine ⟨tt, [u1, u2], rfl, SqT.of upd_same, rfl, u1, [u2], rfl, u2, [], rfl, rfl, rfl, tYes_if ?_⟩
        refine ⟨u1, rfl, u2, rfl, u1, u2, q1, q2, rfl, g1'.1.up (by decide), g2'.1.up (by decide), fun pm npm => ?_⟩
        have sm := Same.new (o := .tup [.int (ofR (q1 * q2)).1, .int (ofR (q1 * q2)).2]) npm
        have fm := FR.new (K := K) (H := upd H7 tt (.tup [u1, u2])) (p := pm) (g1'.bt.mul g2'.bt)
        have s9 := st.trans sm
        have hL9 := s9 _ _ hL7
        refine ⟨zs, hL9, szl (by omega), fun c o e => ?_, zs ++ [.ref pm], qs ++ [q1 * q2], upd_same, by rw [List.length_append, zl]; rfl, FRs.snoc (hZ.mono fun _ _ z => (z.same s9).put hL9) (FR.put fm hL9), fun q hq => ?_⟩
        · rw [upd_ne (ne_of_none e nL)]
          exact s9 _ _ (s7 _ _ e)
        · rcases List.mem_append.mp hq with h | h
          · exact hZ2 q h
          · rw [List.mem_singleton.mp h]
            exact DvQ.mul g1'.2 g2'.2
      · have ej : b = j := by omega
        subst ej
        refine .inl ⟨⟨zs0, ms, s7.seq (SqL.of hp0), s7.seq (SqL.of hM6), .inl (by omega)⟩, ?_⟩
        refine ⟨L, zs, qs, 111, 21, rfl, SqL.of hL7, hZ, by omega, by omega, fun i hi => (part_bt (fun q hq => by obtain ⟨i, hi, e⟩ := List.getElem_of_mem hq; exact (hZ.at (List.getElem?_eq_getElem (by rw [hZ.len]; exact hi)) (show qs[i]? = some q by rw [List.getElem?_eq_getElem hi, e])).bt) i hi).up (by have := hZ.len; have : i * 22 ≤ 5 * 22 := Nat.mul_le_mul_right _ (by omega); omega), fun v H8 s8 fv => ?_⟩
        have s68 := s7.trans s8
        have hT8 := s68 _ _ hT6
        refine ⟨ys, hT8, szl (by omega), fun c o e => ?_, ys ++ [v], upd_same, by rw [List.length_append, yl]; rfl, ((hY.same s68).put hT8).snoc ⟨((fv.up (by omega)).put hT8), fold_dv DvQ.zero hZ2⟩⟩
        rw [upd_ne (ne_of_none e nTL)]
        exact s68 _ _ (s6 _ _ e)
    rintro H6 ⟨s6, ys, hT6, yl, hY⟩
    have R6 := R5.same s6
    have hD6 := s6 _ _ hD5
    have hX6 : ∀ x ∈ xs, VecD 144 K H6 16 j [r, D] x := fun x hx => (hX5 x hx).same s6
    have k36 := k35.trans (Kp.of s6)
    clear hX5 hD5 s6 R5 k35 hM hMF
    dsimp only
    have TLD : TL ≠ D := DTL.symm
    refine go_if3 (fun σ H' => ∃ ys, σ = [some (.ref r), some (.int (i : Nat)), some (.int (j : Nat)), some (.ref D), y4, some (.ref M), some (.ref TL), none, none, none, none, none] ∧ Kp r H3 H' ∧ Rg H' r ∧ H' D = some (.lst xs) ∧ (∀ x ∈ xs, VecD 144 K H' 16 j [r, D] x) ∧ H' TL = some (.lst ys) ∧ ys.length = i ∧ FOd 1728 K H' 130 ys) ?_ (fun DE hDE => ?_)
    rotate_left
    · refine ⟨.ref r, rfl, r, 2, rfl, R6, by decide, by decide, fun z H7 z0 z1 k7 R7 => ⟨rfl, _, rfl, ?_⟩⟩
      have hD7 := k7.1 _ _ Dr hD6
      have hT7 := k7.1 _ _ TLr hT6
      have hX7 : ∀ x ∈ xs, VecD 144 K H7 16 j [r, D] x := fun x hx => (hX6 x hx).kp R6 k7 List.mem_cons_self
      have hY7 := hY.kp R6 k7
      have k37 := k36.trans k7
      by_cases zc : z = 0
      rotate_left
      · exact ifF (decide_eq_false fun y => zc (V.int.inj y)) (hDE _ _ ⟨ys, rfl, k37, R7, hD7, hX7, hT7, by omega, hY7⟩)
      refine ifT (decide_eq_true (by rw [zc])) ?_
      refine ⟨.ref r, rfl, r, rfl, R7, fun fv H8 n5 d5 k8 R8 f5 d5d => ?_⟩
      refine ⟨.ref TL, rfl, .ref r, rfl, .int (i : Nat), rfl, r, (i : Int), rfl, R8, by omega, by omega, fun z2 H9 z20 z21 k9 R9 => ?_⟩
      have k79 := k8.trans k9
      have hT9 := k79.1 _ _ TLr hT7
      have hD9 := k79.1 _ _ Dr hD7
      have hfv := (FD.small f5 d5d).kp R8 k9
      refine ⟨TL, ys, z2, z2.toNat, rfl, rfl, hT9, ixN_nat (by omega) (by omega), hDE _ _ ⟨ys.set z2.toNat fv, rfl, (k37.trans k79).put (H := H3) nTL3 TLr, Rg.put (R3) nTL3 (k37.trans k79) R9, by rw [upd_ne DTL]; exact hD9, fun x hx => ?_, upd_same, by rw [List.length_set]; omega, fun y hy => ?_⟩⟩
      · obtain ⟨p0, zs0, rfl, nb0, hp0, zl0, g0⟩ := (hX7 x hx).kp R7 k79 List.mem_cons_self
        have pT : p0 ≠ TL := hXT _ hx p0 rfl
        exact ⟨p0, zs0, rfl, nb0, by rw [upd_ne pT]; exact hp0, zl0, fun u hu => by obtain ⟨q, g⟩ := g0 u hu; exact ⟨q, g.put hT9⟩⟩
      · rcases List.mem_or_eq_of_mem_set hy with h | h
        · obtain ⟨q, g⟩ := (hY7.kp R7 k79) y h
          exact ⟨q, g.put hT9⟩
        · rw [h]; exact ⟨_, ((hfv.up (by decide)).dv (by decide)).put hT9⟩
    rintro σ H7 ⟨ys, rfl, k7, R7, hD7, hX7, hT7, yl7, hY7⟩
    refine ⟨.ref D, rfl, .ref TL, rfl, sz (by show 2 ≤ 100000; decide), fun t nt => ?_⟩
    have st := Same.new (o := .tup [.ref D, .ref TL]) nt
    exact w t D TL xs ys j _ (k03.trans (k7.trans (Kp.of st))) (R7.same st) (SqT.of upd_same) Dr TLr (st _ _ hD7) (st _ _ hT7) (by omega) (by omega) (by omega) (by omega) (by omega) (fun x hx => (hX7 x hx).same st) (hY7.same st)
end
section
variable {P : Program} {w : World} {K : PySem.W.Frag} {mg : Str → Option Value} {base : Heap} {a : Ad}
def spLChk (K : PySem.W.Frag) : Sp := fun vs H Q _ => ∃ (R y t v : Addr) (kind : Str) (ls : List Addr) (rv : List (List V)) (ys : List V) (rq : List (List Rat)) (ts : List Rat) (w B G A : Nat) (P : Int) (xs : List V) (qs : List Rat) (B2 : Nat) (P2 : Int), vs = [.ref R, .ref y, .ref t] ∧ SqT K H t [.str kind, .ref v] ∧ H R = some (.lst (ls.map V.ref)) ∧ ls.length = rv.length ∧ (∀ (k : Nat) l xs, ls[k]? = some l → rv[k]? = some xs → SqL K H l xs) ∧ EqsAt false false false K H R y rv ys rq ts w B G P ∧ rv ≠ [] ∧ rv.length ≤ 32 ∧ w ≤ 32 ∧
  SqL K H v xs ∧ FRs K H xs qs B2 ∧ 0 < P2 ∧ (∀ q ∈ qs, (q.den : Int) ∣ P2) ∧ (P * P2).natAbs < 2 ^ A ∧ B + B2 + 5 + A ≤ 3900 ∧ xs.length ≤ 900 ∧ ∀ H', Same H H' → Q (.bl (decide (kind = "solution") && solOk rq ts qs w || decide (kind = "certificate") && certOk rq ts qs w)) H'
def sp_l_check_solution (K : PySem.W.Frag) : Sp := spLChk K
/-- products one by one -/
def prods (xs ys : List Rat) : List Rat := (xs.zip ys).map fun p => p.1 * p.2
theorem prods_at {xs ys : List Rat} {i : Nat} {x y : Rat} (hx : xs[i]? = some x) (hy : ys[i]? = some y) : (prods xs ys)[i]? = some (x * y) := by
  unfold prods
  rw [List.getElem?_map, (List.getElem?_zip_eq_some (z := (x, y))).mpr ⟨hx, hy⟩]
  rfl
theorem prods_len {xs ys : List Rat} (h : xs.length = ys.length) : (prods xs ys).length = xs.length := by
  unfold prods
  rw [List.length_map, List.length_zip, ← h, Nat.min_self]
theorem prods_num {E F : Int} {A B : Nat} {xs ys : List Rat} (hx : ∀ x ∈ xs, DvQ E x ∧ Bt x A) (hy : ∀ y ∈ ys, DvQ F y ∧ Bt y B) : ∀ q ∈ prods xs ys, Num (E * F) (A + B) q := fun q hq => by
  obtain ⟨⟨x, y⟩, hm, rfl⟩ := List.mem_map.mp hq
  have h := List.of_mem_zip hm
  exact num_mul (hx x h.1).1 (hy y h.2).1 (hx x h.1).2 (hy y h.2).2
theorem prods_sum {xs ys : List Rat} : (prods xs ys).foldl (· + ·) 0 = dotR xs ys := by
  rw [fold_sum, Rat.zero_add]
  rfl
theorem FRs.bts {K : PySem.W.Frag} {H : Hp} {xs : List V} {qs : List Rat} {B : Nat} (h : FRs K H xs qs B) : ∀ q ∈ qs, Bt q B := fun q hq => by
  obtain ⟨i, hi, e⟩ := List.getElem_of_mem hq
  exact (h.at (List.getElem?_eq_getElem (by rw [h.len]; exact hi)) (show qs[i]? = some q by rw [List.getElem?_eq_getElem hi, e])).bt
theorem dotR_comm : ∀ {xs ys : List Rat}, dotR xs ys = dotR ys xs
  | [], [] => rfl
  | [], _ :: _ => rfl
  | _ :: _, [] => rfl
  | x :: xs, y :: ys => by
    show x * y + dotR xs ys = y * x + dotR ys xs
    rw [dotR_comm (xs := xs)]
    grind
theorem sol_iff {qs : List Rat} : ∀ {rq : List (List Rat)} {ts : List Rat}, ts.length = rq.length → (∀ q ∈ rq, q.length = qs.length) → ((rq.zip ts).all fun p => decide (dotR (p.1 ++ [p.2]) (qs ++ [-1]) = 0)) = decide ((rq.map fun q => dotR q qs) = ts)
  | [], [], _, _ => rfl
  | [], _ :: _, l, _ => by cases l
  | _ :: _, [], l, _ => by cases l
  | q :: rq, t :: ts, l, h => by
    have e : dotR (q ++ [t]) (qs ++ [-1]) = dotR q qs + t * (-1) := Bar.dot_app (h q List.mem_cons_self)
    rw [List.zip_cons_cons, List.all_cons, sol_iff (by simpa using l) fun x hx => h x (List.mem_cons_of_mem _ hx), List.map_cons, e]
    by_cases a : dotR q qs = t
    · rw [a, decide_eq_true (show t + t * (-1) = 0 by grind), Bool.true_and]
      simp
    · rw [decide_eq_false (show ¬ dotR q qs + t * (-1) = 0 by grind), Bool.false_and]
      refine (decide_eq_false fun z => ?_).symm
      injection z with z _
      exact a z

theorem ok_l_check_solution (T : Txt K mg a) : FnOk P w K mg base CX0 4 a.f_l_check_solution a.fd_l_check_solution ["_law_my_rows", "_law_my_targets", "_law_answer"] (sp_l_check_solution K) := by
  have G_l_sum := ok_l_sum (P := P) (w := w) (base := base) T
  have G_l_multiply := ok_l_multiply (P := P) (w := w) (base := base) T
  refine T.F_l_check_solution.ok sc_l_check_solution (fun vs H Q E h => ?_) (fun cdv A outer s H vs Q E hr h => ?_)
  · obtain ⟨R, y, t, v, kind, ls, rv, ys, rq, ts, w, B, G, A, P, xs, qs, B2, P2, rfl, _⟩ := h
    rfl
  · obtain ⟨R, y, t, v, kind, ls, rv, ys, rq, ts, w, B, G, A, P, xs, qs, B2, P2, rfl, ht, hR, ll, hls, hE, rv0, rv32, w32, hv, hF, P20, pq, PA, BA, x9, fin⟩ := h
    refine ⟨_, (pss_cons (ps_asg (pv 2) (pg_tup rfl (pgs_cons (pg_name (i := 3) sc_l_check_solution.nd rfl (by first | exact Or.inl rfl | exact Or.inr rfl)) (pgs_cons (pg_name (i := 4) sc_l_check_solution.nd rfl (by first | exact Or.inl rfl | exact Or.inr rfl)) pgs_nil))))
          (pss_cons (ps_if (pt_cmpR op_eq (pv 3) pe_str (nomark _)) (pss_cons (ps_if (pt_cmpR op_ne (pe_callB call_len (by rfl) T.n_len (by decide +kernel) (pa_cons (pv 4) pa_nil)) (pe_callB call_len (by rfl) T.n_len (by decide +kernel) (pa_cons (pe_ix ix_list (pe_op op_cat (pv 0) (pe_lst (pa_cons (pe_lst pa_nil) pa_nil))) pe_int (fun _ _ => rfl)) pa_nil)) (nomark _)) (pss_one (ps_ret pe_bl)) pss_nil)
          (pss_one (ps_ret (pe_cmpR (DaT.op_eq hr.units) (pe_lc (own := [("_law_row", 6)]) (g := gName 6) rfl sc_l_check_solution.nd (pi_list (pv 0)) (blkOk_by (own := [("_law_row", 6)]) (N := ["_law_my_rows", "_law_my_targets", "_law_answer", "_law_kind", "_law_some", "_law_k", "_law_row", "_law_x", "_law_y"]) (sc := defScope s_l_check_solution) (by decide +kernel)) (fun _ _ _ _ _ => (pg_name (i := 6) sc_l_check_solution.nd rfl (Or.inl rfl))) (fun _ _ _ _ _ => pts_nil) (fun _ _ _ _ _ => (pe_call G_l_sum (hr.mono (by first | decide | omega)) (by rfl) T.g_l_sum T.F_l_sum.kp T.b_l_sum .nil pass0 (pa_cons (pe_lc (own := [("_law_x", 7), ("_law_y", 8)]) (g := gTup K 2 (gCons (gName 7) (gCons (gName 8) gNil))) rfl sc_l_check_solution.nd (zipAK (K := K) rfl (by rfl) T.n_zip (pa_cons (pv 6) (pa_cons (pv 4) pa_nil))) (blkOk_by (own := [("_law_x", 7), ("_law_y", 8)]) (N := ["_law_my_rows", "_law_my_targets", "_law_answer", "_law_kind", "_law_some", "_law_k", "_law_row", "_law_x", "_law_y"]) (by kernel_rfl)) (fun _ _ _ _ _ => (pg_tup rfl (pgs_cons (pg_name (i := 7) sc_l_check_solution.nd rfl (by first | exact Or.inl rfl | exact Or.inr rfl)) (pgs_cons (pg_name (i := 8) sc_l_check_solution.nd rfl (by first | exact Or.inl rfl | exact Or.inr rfl)) pgs_nil)))) (fun _ _ _ _ _ => pts_nil) (fun _ _ _ _ _ => (pe_call G_l_multiply (hr.mono (by first | decide | omega)) (by rfl) T.g_l_multiply T.F_l_multiply.kp T.b_l_multiply .nil pass0 (pa_cons (pv 7) (pa_cons (pv 8) pa_nil))))) pa_nil)))) (pe_callTy call_list_of (by rfl) T.n_list (by decide +kernel) (pa_cons (pv 1) pa_nil)) (nomark _))))) pss_nil)
          (pss_cons (ps_if (PW.pt (pw_or (pt_cmpR op_ne (pv 3) pe_str (nomark _)) (pw_or1 (pt_cmpR op_ne (pe_callB call_len (by rfl) T.n_len (by decide +kernel) (pa_cons (pv 4) pa_nil)) (pe_callB call_len (by rfl) T.n_len (by decide +kernel) (pa_cons (pv 0) pa_nil)) (nomark _))))) (pss_one (ps_ret pe_bl)) pss_nil)
          (pss_cons (ps_for PassesOwn.never rfl (pi_range1 (by rfl) T.n_range (pa_cons (pe_callB call_len (by rfl) T.n_len (by decide +kernel) (pa_cons (pe_ix ix_list (pe_op op_cat (pv 0) (pe_lst (pa_cons (pe_lst pa_nil) pa_nil))) pe_int (fun _ _ => rfl)) pa_nil)) pa_nil)) (pg_name (i := 5) sc_l_check_solution.nd rfl (by first | exact Or.inl rfl | exact Or.inr rfl)) (pss_one (ps_if (pt_cmpR (DaT.op_ne hr.units) (pe_call G_l_sum (hr.mono (by first | decide | omega)) (by rfl) T.g_l_sum T.F_l_sum.kp T.b_l_sum .nil pass0 (pa_cons (pe_lc (own := [("_law_x", 7), ("_law_row", 6)]) (g := gTup K 2 (gCons (gName 7) (gCons (gName 6) gNil))) rfl sc_l_check_solution.nd (RZ.pi_zipA (by rfl) T.n_zip (pa_cons (pv 4) (pa_cons (pv 0) pa_nil))) (blkOk_by (own := [("_law_x", 7), ("_law_row", 6)]) (N := ["_law_my_rows", "_law_my_targets", "_law_answer", "_law_kind", "_law_some", "_law_k", "_law_row", "_law_x", "_law_y"]) (sc := defScope s_l_check_solution) (by decide +kernel)) (fun _ _ _ _ _ => (pg_tup rfl (pgs_cons (pg_name (i := 7) sc_l_check_solution.nd rfl (by first | exact Or.inl rfl | exact Or.inr rfl)) (pgs_cons (pg_name (i := 6) sc_l_check_solution.nd rfl (Or.inl rfl)) pgs_nil)))) (fun _ _ _ _ _ => pts_nil) (fun _ _ _ _ _ => (pe_call G_l_multiply (hr.mono (by first | decide | omega)) (by rfl) T.g_l_multiply T.F_l_multiply.kp T.b_l_multiply .nil pass0 (pa_cons (pv 7) (pa_cons (pe_ix (ixL (K := K) rfl) (pv 6) (pv 5) (fun _ _ => rfl)) pa_nil))))) pa_nil)) (pe_tup (pa_cons pe_int (pa_cons pe_int pa_nil))) (nomark _)) (pss_one (ps_ret pe_bl)) pss_nil)))
          (pss_one (ps_ret (pe_cmpR (DaT.op_ne hr.units) (pe_call G_l_sum (hr.mono (by first | decide | omega)) (by rfl) T.g_l_sum T.F_l_sum.kp T.b_l_sum .nil pass0 (pa_cons (pe_lc (own := [("_law_x", 7), ("_law_y", 8)]) (g := gTup K 2 (gCons (gName 7) (gCons (gName 8) gNil))) rfl sc_l_check_solution.nd (RZ.pi_zipA (by rfl) T.n_zip (pa_cons (pv 4) (pa_cons (pv 1) pa_nil))) (blkOk_by (own := [("_law_x", 7), ("_law_y", 8)]) (N := ["_law_my_rows", "_law_my_targets", "_law_answer", "_law_kind", "_law_some", "_law_k", "_law_row", "_law_x", "_law_y"]) (sc := defScope s_l_check_solution) (by decide +kernel)) (fun _ _ _ _ _ => (pg_tup rfl (pgs_cons (pg_name (i := 7) sc_l_check_solution.nd rfl (by first | exact Or.inl rfl | exact Or.inr rfl)) (pgs_cons (pg_name (i := 8) sc_l_check_solution.nd rfl (by first | exact Or.inl rfl | exact Or.inr rfl)) pgs_nil)))) (fun _ _ _ _ _ => pts_nil) (fun _ _ _ _ _ => (pe_call G_l_multiply (hr.mono (by first | decide | omega)) (by rfl) T.g_l_multiply T.F_l_multiply.kp T.b_l_multiply .nil pass0 (pa_cons (pv 7) (pa_cons (pv 8) pa_nil))))) pa_nil)) (pe_tup (pa_cons pe_int (pa_cons pe_int pa_nil))) (nomark _)))))))), ?_⟩
    refine ⟨.ref t, rfl, t, _, rfl, ht, rfl, _, _, rfl, _, _, rfl, rfl, ?_⟩
    refine ⟨.str kind, rfl, rfl, _, rfl, ?_⟩
    have xl : xs.length = qs.length := hF.len
    have tl : ts.length = rq.length := by rw [hE.ql, ← hE.yl]; exact hE.ft.len.symm
    have P0 := hE.P0
    have PP : 0 < P * P2 := Int.mul_pos P0 P20
    have rql := hE.ql
    have qlen : ∀ (i : Nat) q, rq[i]? = some q → q.length = w := fun i q e => by
      have il : i < rv.length := by rw [← hE.ql]; exact (List.getElem?_eq_some_iff.mp e).1
      have e2 : rv[i]? = some (rv[i]'il) := List.getElem?_eq_getElem il
      rw [← (hE.fr i _ _ e2 e).len]
      exact hE.wl _ (List.getElem_mem _)
    have rv1 : 0 < rv.length := by cases rv with | nil => exact absurd rfl rv0 | cons _ _ => exact Nat.succ_pos _
    obtain ⟨l0, hl0⟩ : ∃ l, ls[0]? = some l := ⟨_, List.getElem?_eq_getElem (by omega)⟩
    have hx0 : rv[0]? = some (rv[0]'rv1) := List.getElem?_eq_getElem _
    have hs0 := hls 0 l0 _ hl0 hx0
    have w0 := hE.wl _ (List.mem_of_getElem? hx0)
    generalize rv[0]'rv1 = x0 at *
    have at0 : ∀ e : Addr, atI (ls.map V.ref ++ [V.ref e]) 0 = some (.ref l0) := fun e => atI_nat (j := 0) (by rw [List.getElem?_append_left (by rw [List.length_map]; omega), List.getElem?_map, hl0]; rfl)
    by_cases g : kind = "solution"
    · refine ifT (decide_eq_true (by rw [g])) ?_
      refine ⟨.ref v, rfl, .ref v, xs.length, rfl, .inl ⟨_, hv, rfl⟩, .ref R, rfl, sz (by show 0 ≤ 100000; decide), fun e1 ne1 => ⟨sz (by show 1 ≤ 100000; decide), fun e2 ne2 => ?_⟩⟩
      have s1 := (Same.new (o := .lst []) ne1).trans (Same.new (o := .lst [.ref e1]) ne2)
      refine ⟨R, e2, ls.map V.ref, [.ref e1], rfl, rfl, s1 _ _ hR, upd_same, sz (by rw [List.length_map]; show ls.length + 1 ≤ 100000; omega), fun e3 ne3 => ?_⟩
      have s3 := s1.trans (Same.new (o := .lst (ls.map V.ref ++ [.ref e1])) ne3)
      refine ⟨e3, _, 0, .ref l0, rfl, rfl, SqL.of upd_same, at0 e1, .ref l0, x0.length, rfl, .inl ⟨_, s3.seq hs0, rfl⟩, rfl, _, rfl, ?_⟩
      generalize upd (upd (upd H e1 (.lst [])) e2 (.lst [.ref e1])) e3 (.lst (ls.map V.ref ++ [.ref e1])) = H3 at *
      rw [w0]
      by_cases e : qs.length = w
      rotate_left
      · refine ifT (by rw [xl]; simp only [Bool.not_eq_true', decide_eq_false_iff_not]; exact fun z => e (by have := V.int.inj z; omega)) ?_
        have w' := fin H3 s3
        unfold solOk at w'
        rw [decide_eq_false e, Bool.false_and, Bool.and_false, decide_eq_false (show ¬ kind = "certificate" from fun z => by rw [g] at z; exact absurd z (by decide)), Bool.false_and] at w'
        exact w'
      refine ifF (by rw [xl, e]; simp) ?_
      have hE3 := hE.same s3
      have hR3 := s3 _ _ hR
      have hv3 := s3.seq hv
      have hF3 := hF.mv s3
      refine ⟨.ref R, rfl, R, rfl, ⟨_, SqL.of hR3⟩, fun D nD => ?_⟩
      have hq0 : ∀ q ∈ rq, q.length = qs.length := fun q hq => by
        obtain ⟨i, hi, e'⟩ := List.getElem_of_mem hq
        rw [e]
        exact qlen i q (by rw [List.getElem?_eq_getElem hi, e'])
      refine lc_list (K := K) (a := R) (xs := ls.map V.ref) (fun i H5 => Same H3 H5 ∧ ∃ acc, H5 D = some (.lst acc) ∧ FRs K H5 acc ((rq.map fun q => dotR q qs).take i) (B + B2 + 5 + A)) ⟨Same.new nD, [], upd_same, FRs.nil⟩ (fun i H5 _ h => SqL.of (h.1 _ _ hR3)) ?_ ?_
      · rintro i x H5 hx ⟨s5, acc, hD, hacc⟩
        rw [List.getElem?_map] at hx
        cases e2 : ls[i]? with
        | none => rw [e2] at hx; cases hx
        | some l =>
          rw [e2] at hx
          cases hx
          have il : i < ls.length := (List.getElem?_eq_some_iff.mp e2).1
          have ir : rv[i]? = some (rv[i]'(by omega)) := List.getElem?_eq_getElem _
          have iq : rq[i]? = some (rq[i]'(by omega)) := List.getElem?_eq_getElem _
          have hl := (s3.trans s5).seq (hls i l _ e2 ir)
          have hf := (hE3.same s5).fr i _ _ ir iq
          have pr := hE.pr _ (List.mem_of_getElem? iq)
          have ql := qlen i _ iq
          have im : (rq.map fun q => dotR q qs)[i]? = some (dotR (rq[i]'(by omega)) qs) := by rw [List.getElem?_map, iq]; rfl
          generalize rv[i]'(by omega) = row at *
          generalize rq[i]'(by omega) = q at *
          have rl : row.length = w := by rw [hf.len, ql]
          have hv5 := s5.seq hv3
          have hF5 := hF3.mv s5
          have pl := prods_len (xs := q) (ys := qs) (by omega)
          refine ⟨rfl, tYes_if ?_⟩
          refine ⟨.ref l, rfl, .ref v, rfl, l, v, row, xs, rfl, .inl ⟨hl, hv5, fun L nL => ?_⟩⟩
          refine lc_zp (zpIt_l hl hv5) (by rw [rl, xl, e]) (fun j H7 => Same H5 H7 ∧ ∃ zs, H7 L = some (.lst zs) ∧ FRs K H7 zs ((prods q qs).take j) (B + B2)) ⟨Same.new nL, [], upd_same, FRs.nil⟩ (fun i H7 _ h => h.1) ?_ ?_
          · rintro j u1 u2 tt H7 h1 h2 nT ⟨s7, zs, hL7, hZ⟩
            have jl : j < row.length := (List.getElem?_eq_some_iff.mp h1).1
            have jq : q[j]? = some (q[j]'(by omega)) := List.getElem?_eq_getElem _
            have jv : qs[j]? = some (qs[j]'(by omega)) := List.getElem?_eq_getElem _
            have g1 := hf.at h1 jq
            have g2 := hF5.at h2 jv
            have jp := prods_at jq jv
            generalize q[j]'(by omega) = q1 at *
            generalize qs[j]'(by omega) = q2 at *
            have st := Same.new (o := .tup [u1, u2]) nT
            have g1' := g1.same (s7.trans st)
            have g2' := g2.same (s7.trans st)
            refine ⟨tt, [u1, u2], rfl, SqT.of upd_same, rfl, u1, [u2], rfl, u2, [], rfl, rfl, rfl, tYes_if ?_⟩
            refine ⟨u1, rfl, u2, rfl, u1, u2, q1, q2, rfl, g1'.up (by omega), g2'.up (by omega), fun pm npm => ?_⟩
            have sm := Same.new (o := .tup [.int (ofR (q1 * q2)).1, .int (ofR (q1 * q2)).2]) npm
            have fm := FR.new (K := K) (H := upd H7 tt (.tup [u1, u2])) (p := pm) (g1'.bt.mul g2'.bt)
            have s9 := st.trans sm
            have hL9 := s9 _ _ hL7
            have zl : zs.length = j := by rw [hZ.len, List.length_take, pl]; omega
            refine ⟨zs, hL9, szl (by omega), fun c o e => ?_, zs ++ [.ref pm], upd_same, ?_⟩
            · rw [upd_ne (ne_of_none e nL)]
              exact s9 _ _ (s7 _ _ e)
            · rw [List.take_add_one, jp]
              exact FRs.snoc (hZ.mono fun _ _ z => (z.same s9).put hL9) (FR.put fm hL9)
          rintro H7 ⟨s7, zs, hL7, hZ⟩
          rw [List.take_of_length_le (by omega)] at hZ
          refine ⟨L, zs, prods q qs, B + B2 + 5 + A, B + B2, rfl, SqL.of hL7, hZ, BA, by omega, fun i _ => sum_bt (M := B + B2) (L := 5) PP PA (by rw [pl, ql]; exact w32) (prods_num (fun x hx => ⟨pr x hx, hf.bts x hx⟩) fun y hy => ⟨pq y hy, hF.bts y hy⟩) i, fun u H8 s8 fu => ?_⟩
          rw [prods_sum] at fu
          have s58 := s7.trans s8
          have hD8 := s58 _ _ hD
          have al : acc.length = i := by rw [hacc.len, List.length_take, List.length_map]; omega
          refine ⟨_, hD8, szl (by omega), fun b o e => ?_, acc ++ [u], upd_same, ?_⟩
          · rw [upd_ne (ne_of_none e nD)]
            exact s58 _ _ (s5 _ _ e)
          · rw [List.take_add_one, im]
            exact FRs.snoc (hacc.mono fun _ _ z => (z.same s58).put hD8) (fu.put hD8)
      rintro H5 ⟨s5, acc, hD, hacc⟩
      rw [List.take_of_length_le (by rw [List.length_map, List.length_map, ll, rql]; exact Nat.le_refl _)] at hacc
      have hy5 : SqL K H5 y ys := s5.seq (show SqL K H3 y ys from hE3.tgt)
      refine ⟨.ref y, rfl, y, ys, rfl, .inl hy5, fun c nc => ?_⟩
      have sc := Same.new (o := .lst ys) nc
      obtain ⟨d1, d2⟩ := (hacc.mv sc).dats (n := 58)
      obtain ⟨d3, d4⟩ := ((hE3.ft.mv s5).mv sc).dats (n := 58)
      refine ⟨_, _, DaT.At.lst (SqL.of (sc _ _ hD)) d1 d2, DaT.At.lst (SqL.of upd_same) d3 d4, ?_⟩
      rw [eqv_qs]
      have w' := fin _ (s3.trans (s5.trans sc))
      unfold solOk at w'
      rw [decide_eq_true e, Bool.true_and, decide_eq_true g, Bool.true_and, decide_eq_false (show ¬ kind = "certificate" from fun z => by rw [g] at z; exact absurd z (by decide)), Bool.false_and, Bool.or_false, sol_iff tl hq0] at w'
      exact w'
    -- a certificate
    refine ifF (decide_eq_false fun z => g (V.str.inj z)) ?_
    by_cases gc : kind = "certificate"
    rotate_left
    · refine ⟨.str kind, rfl, rfl, _, rfl, ?_⟩
      refine ifT (c := !decide (V.str kind = V.str "certificate")) (by simpa using gc) ?_
      have w' := fin H (Same.refl H)
      rw [decide_eq_false g, decide_eq_false gc, Bool.false_and, Bool.false_and, Bool.or_false] at w'
      first | exact w' | exact ifT rfl w'
    refine ⟨.str kind, rfl, rfl, _, rfl, ?_⟩
    refine ifF (c := !decide (V.str kind = V.str "certificate")) (by simp [gc]) ?_
    refine ⟨.ref v, rfl, .ref v, xs.length, rfl, .inl ⟨_, hv, rfl⟩, .ref R, rfl, .ref R, (ls.map V.ref).length, rfl, .inl ⟨_, SqL.of hR, rfl⟩, rfl, _, rfl, ?_⟩
    rw [List.length_map, ll, ← rql]
    by_cases e : qs.length = rq.length
    rotate_left
    · refine ifT (by rw [xl]; simp only [Bool.not_eq_true', decide_eq_false_iff_not]; exact fun z => e (by have := V.int.inj z; omega)) ?_
      have w' := fin H (Same.refl H)
      unfold certOk at w'
      rw [decide_eq_false g, decide_eq_false e, Bool.false_and, Bool.false_and, Bool.and_false, Bool.or_false] at w'
      exact w'
    refine ifF (by rw [xl, e]; simp) ?_
    -- the columns
    refine ⟨.ref R, rfl, sz (by show 0 ≤ 100000; decide), fun e1 ne1 => ⟨sz (by show 1 ≤ 100000; decide), fun e2 ne2 => ?_⟩⟩
    have s1 := (Same.new (o := .lst []) ne1).trans (Same.new (o := .lst [.ref e1]) ne2)
    refine ⟨R, e2, ls.map V.ref, [.ref e1], rfl, rfl, s1 _ _ hR, upd_same, sz (by rw [List.length_map]; show ls.length + 1 ≤ 100000; omega), fun e3 ne3 => ?_⟩
    have s3 := s1.trans (Same.new (o := .lst (ls.map V.ref ++ [.ref e1])) ne3)
    refine ⟨e3, _, 0, .ref l0, rfl, rfl, SqL.of upd_same, at0 e1, .ref l0, x0.length, rfl, .inl ⟨_, s3.seq hs0, rfl⟩, ?_⟩
    generalize upd (upd (upd H e1 (.lst [])) e2 (.lst [.ref e1])) e3 (.lst (ls.map V.ref ++ [.ref e1])) = H3 at *
    rw [w0]
    have hE3 := hE.same s3
    have hR3 := s3 _ _ hR
    have hv3 := s3.seq hv
    have hF3 := hF.mv s3
    have w' := fun H' s' => fin H' s'
    unfold certOk at w'
    rw [decide_eq_false g, decide_eq_true e, decide_eq_true gc, Bool.false_and, Bool.true_and, Bool.true_and, Bool.false_or] at w'
    refine ⟨(w : Int), rfl, by omega, by omega, ?_⟩
    have fsum : ∀ {H' : Hp} {u : V} {q : Rat} {n : Nat} {z : Addr}, FR K H' u q n → DaT.At K (upd H' z (.tup [.int 0, .int 1])) 60 (.ref z) (qd 0) := fun {H' u q n z} _ => DaT.At.tup (n := 59) (SqT.of upd_same) rfl (DaT.pr_cons DaT.At.int (DaT.pr_cons DaT.At.int DaT.pr_nil))
    refine ⟨fun i m σ H4 => ∃ y5, i + m = w ∧ σ = [some (.ref R), some (.ref y), some (.ref t), some (.str kind), some (.ref v), y5, none, none, none] ∧ Same H3 H4 ∧ ∀ j, j < i → dotR (colQ rq j) qs = 0, ⟨w, none, by omega, rfl, Same.refl H3, fun j hj => absurd hj (Nat.not_lt_zero _)⟩, fun i m σ H4 hW => ?_⟩
    obtain ⟨y5, em, rfl, s4, hz⟩ := hW
    have hv4 := s4.seq hv3
    have hF4 := hF3.mv s4
    have hE4 := hE3.same s4
    by_cases hi : i < w
    · refine .inr ⟨(show i < ((w : Nat) : Int).toNat by omega), fun σ' H' => ∃ y5, σ' = [some (.ref R), some (.ref y), some (.ref t), some (.str kind), some (.ref v), y5, none, none, none] ∧ Same H3 H' ∧ ∀ j, j < i + 1 → dotR (colQ rq j) qs = 0, fun σ' H' hN => ?_, fun u H5 hy => ?_⟩
      · obtain ⟨y5, h⟩ := hN
        exact ⟨m - 1, by omega, y5, by omega, h⟩
      obtain ⟨rfl, rfl⟩ := hy
      rw [Int.zero_add]
      have hR4 := s4 _ _ hR3
      obtain ⟨hcf, hcd⟩ := hE4.col hi
      have cl : (colQ rq i).length = rq.length := List.length_map ..
      have pl := prods_len (xs := qs) (ys := colQ rq i) (by omega)
      refine ⟨.ref v, rfl, .ref R, rfl, v, R, xs, ls.map V.ref, rfl, .inl ⟨hv4, SqL.of hR4, fun L nL => ?_⟩⟩
      refine lc_zp (zpIt_l hv4 (SqL.of hR4)) (by rw [List.length_map]; omega) (fun j H7 => Same H5 H7 ∧ ∃ zs, H7 L = some (.lst zs) ∧ FRs K H7 zs ((prods qs (colQ rq i)).take j) (B2 + B)) ⟨Same.new nL, [], upd_same, FRs.nil⟩ (fun i H7 _ h => h.1) ?_ ?_
      · rintro j u1 u2 tt H7 h1 h2 nT ⟨s7, zs, hL7, hZ⟩
        have jl : j < xs.length := (List.getElem?_eq_some_iff.mp h1).1
        rw [List.getElem?_map] at h2
        cases e2 : ls[j]? with
        | none => rw [e2] at h2; cases h2
        | some l =>
          rw [e2] at h2
          cases h2
          have il : j < ls.length := (List.getElem?_eq_some_iff.mp e2).1
          have ir : rv[j]? = some (rv[j]'(by omega)) := List.getElem?_eq_getElem _
          have iq : rq[j]? = some (rq[j]'(by omega)) := List.getElem?_eq_getElem _
          have jv : qs[j]? = some (qs[j]'(by omega)) := List.getElem?_eq_getElem _
          have st := Same.new (o := .tup [u1, .ref l]) nT
          have hl := (s3.trans (s4.trans (s7.trans st))).seq (hls j l _ e2 ir)
          have hf := ((hE4.same (s7.trans st)).fr j _ _ ir iq)
          have ql := qlen j _ iq
          have ic : (colQ rq i)[j]? = some ((rq[j]'(by omega)).getD i 0) := by
            unfold colQ
            rw [List.getElem?_map, iq]
            rfl
          have g1 := hF4.at h1 jv
          have jp := prods_at jv ic
          have iqi : (rq[j]'(by omega))[i]? = some ((rq[j]'(by omega)).getD i 0) := by
            rw [List.getD_eq_getElem?_getD, List.getElem?_eq_getElem (by omega)]
            rfl
          generalize rv[j]'(by omega) = row at *
          generalize rq[j]'(by omega) = q at *
          generalize qs[j]'(by omega) = q1 at *
          have rl : row.length = w := by rw [hf.len, ql]
          have iru : row[i]? = some (row[i]'(by omega)) := List.getElem?_eq_getElem _
          have g2' := hf.at iru iqi
          generalize row[i]'(by omega) = u at *
          generalize q.getD i 0 = q2 at *
          have g1' := g1.same (s7.trans st)
          refine ⟨tt, [u1, .ref l], rfl, SqT.of upd_same, rfl, u1, [.ref l], rfl, .ref l, [], rfl, rfl, rfl, tYes_if ?_⟩
          refine ⟨u1, rfl, .ref l, rfl, .int (i : Nat), rfl, l, row, (i : Int), u, rfl, rfl, hl, atI_nat iru, u1, u, q1, q2, rfl, g1'.up (by omega), g2'.up (by omega), fun pm npm => ?_⟩
          have sm := Same.new (o := .tup [.int (ofR (q1 * q2)).1, .int (ofR (q1 * q2)).2]) npm
          have fm := FR.new (K := K) (H := upd H7 tt (.tup [u1, .ref l])) (p := pm) (g1'.bt.mul g2'.bt)
          have s9 := st.trans sm
          have hL9 := s9 _ _ hL7
          have zl : zs.length = j := by rw [hZ.len, List.length_take, pl]; omega
          refine ⟨zs, hL9, szl (by omega), fun c o e => ?_, zs ++ [.ref pm], upd_same, ?_⟩
          · rw [upd_ne (ne_of_none e nL)]
            exact s9 _ _ (s7 _ _ e)
          · rw [List.take_add_one, jp]
            exact FRs.snoc (hZ.mono fun _ _ z => (z.same s9).put hL9) (FR.put fm hL9)
      rintro H7 ⟨s7, zs, hL7, hZ⟩
      rw [List.take_of_length_le (by omega)] at hZ
      refine ⟨L, zs, prods qs (colQ rq i), B + B2 + 5 + A, B2 + B, rfl, SqL.of hL7, hZ, BA, by omega, fun i' _ => ?_, fun u H8 s8 fu => ?_⟩
      · have := sum_bt (M := B2 + B) (L := 5) (E := P2 * P) (A := A) (Int.mul_pos P20 P0) (by rw [Int.mul_comm]; exact PA) (by rw [pl]; omega) (prods_num (fun x hx => ⟨pq x hx, hF.bts x hx⟩) fun y hy => ⟨hcd y hy, hcf.bts y hy⟩) i'
        rwa [Nat.add_comm B2 B] at this
      rw [prods_sum, dotR_comm] at fu
      refine ⟨sz (by show 2 ≤ 100000; decide), fun z nz => ?_⟩
      have sz' := Same.new (o := .tup [.int 0, .int 1]) nz
      refine ⟨_, _, (fu.same sz').dat, fsum fu, ?_⟩
      rw [eqv_q]
      have s48 := s7.trans (s8.trans sz')
      refine ⟨_, rfl, ?_⟩
      by_cases z : dotR (colQ rq i) qs = 0
      · refine ifF (by rw [decide_eq_true z]; rfl) ⟨_, rfl, s4.trans s48, fun j hj => ?_⟩
        by_cases e' : j = i
        · rw [e']; exact z
        · exact hz j (by omega)
      · refine ifT (by rw [decide_eq_false z]; rfl) ?_
        have w2 := w' _ (s3.trans (s4.trans s48))
        have ef : ((List.range w).all fun j => decide (dotR (colQ rq j) qs = 0)) = false := by
          rw [List.all_eq_false]
          exact ⟨i, List.mem_range.mpr hi, by simpa using z⟩
        rw [ef, Bool.false_and] at w2
        exact w2
    have ei : i = w := by omega
    subst ei
    refine .inl ⟨(show ((i : Nat) : Int).toNat ≤ i by omega), ?_⟩
    have et : ((List.range i).all fun j => decide (dotR (colQ rq j) qs = 0)) = true := by
      rw [List.all_eq_true]
      exact fun j hj => decide_eq_true (hz j (List.mem_range.mp hj))
    rw [et] at w'
    have hy4 : SqL K H4 y ys := hE4.tgt
    have pl := prods_len (xs := qs) (ys := ts) (by omega)
    have ysl : ys.length = xs.length := by rw [hE.yl]; omega
    refine ⟨.ref v, rfl, .ref y, rfl, v, y, xs, ys, rfl, .inl ⟨hv4, hy4, fun L nL => ?_⟩⟩
    refine lc_zp (zpIt_l hv4 hy4) ysl.symm (fun j H7 => Same H4 H7 ∧ ∃ zs, H7 L = some (.lst zs) ∧ FRs K H7 zs ((prods qs ts).take j) (B2 + B)) ⟨Same.new nL, [], upd_same, FRs.nil⟩ (fun i H7 _ h => h.1) ?_ ?_
    · rintro j u1 u2 tt H7 h1 h2 nT ⟨s7, zs, hL7, hZ⟩
      have jl : j < xs.length := (List.getElem?_eq_some_iff.mp h1).1
      have jv : qs[j]? = some (qs[j]'(by omega)) := List.getElem?_eq_getElem _
      have jt : ts[j]? = some (ts[j]'(by omega)) := List.getElem?_eq_getElem _
      have g1 := hF4.at h1 jv
      have g2 := hE4.ft.at h2 jt
      have jp := prods_at jv jt
      generalize qs[j]'(by omega) = q1 at *
      generalize ts[j]'(by omega) = q2 at *
      have st := Same.new (o := .tup [u1, u2]) nT
      have g1' := g1.same (s7.trans st)
      have g2' := g2.same (s7.trans st)
      refine ⟨tt, [u1, u2], rfl, SqT.of upd_same, rfl, u1, [u2], rfl, u2, [], rfl, rfl, rfl, tYes_if ?_⟩
      refine ⟨u1, rfl, u2, rfl, u1, u2, q1, q2, rfl, g1'.up (by omega), g2'.up (by omega), fun pm npm => ?_⟩
      have sm := Same.new (o := .tup [.int (ofR (q1 * q2)).1, .int (ofR (q1 * q2)).2]) npm
      have fm := FR.new (K := K) (H := upd H7 tt (.tup [u1, u2])) (p := pm) (g1'.bt.mul g2'.bt)
      have s9 := st.trans sm
      have hL9 := s9 _ _ hL7
      have zl : zs.length = j := by rw [hZ.len, List.length_take, pl]; omega
      refine ⟨zs, hL9, szl (by omega), fun c o e => ?_, zs ++ [.ref pm], upd_same, ?_⟩
      · rw [upd_ne (ne_of_none e nL)]
        exact s9 _ _ (s7 _ _ e)
      · rw [List.take_add_one, jp]
        exact FRs.snoc (hZ.mono fun _ _ z => (z.same s9).put hL9) (FR.put fm hL9)
    rintro H7 ⟨s7, zs, hL7, hZ⟩
    rw [List.take_of_length_le (by omega)] at hZ
    refine ⟨L, zs, prods qs ts, B + B2 + 5 + A, B2 + B, rfl, SqL.of hL7, hZ, BA, by omega, fun i' _ => ?_, fun u H8 s8 fu => ?_⟩
    · have := sum_bt (M := B2 + B) (L := 5) (E := P2 * P) (A := A) (Int.mul_pos P20 P0) (by rw [Int.mul_comm]; exact PA) (by rw [pl]; omega) (prods_num (fun x hx => ⟨pq x hx, hF.bts x hx⟩) fun y hy => ⟨hE.pt y hy, hE.ft.bts y hy⟩) i'
      rwa [Nat.add_comm B2 B] at this
    rw [prods_sum, dotR_comm] at fu
    refine ⟨sz (by show 2 ≤ 100000; decide), fun z nz => ?_⟩
    have sz' := Same.new (o := .tup [.int 0, .int 1]) nz
    refine ⟨_, _, (fu.same sz').dat, fsum fu, ?_⟩
    rw [eqv_q]
    have w2 := w' _ (s3.trans (s4.trans (s7.trans (s8.trans sz'))))
    rw [Bool.true_and] at w2
    exact w2
end
section
variable {P : Program} {w : World} {K : PySem.W.Frag} {mg : Str → Option Value} {base : Heap} {a : Ad}
def sp_p_law (K : PySem.W.Frag) : Sp := fun vs H Q _ => ∃ (b : Addr) (ns : List Int), vs = [.ref b] ∧ SqL K H b (ns.map V.int) ∧ ns.length ≤ 63 ∧ ∀ H', Q (.bl true) H'
theorem intBK {X : Cx} {K : PySem.W.Frag} (h : X.K = K) : CallR X (.type "int") (fun xs H Q => (∃ i, xs = [.int i] ∧ Q (.int i) H) ∨ ∃ k, xs = [.bl k] ∧ Q (.int (if k then 1 else 0)) H) := by subst h; exact call_int1
/-- the equations while the law asks -/
structure SN (M B : Nat) (P : Int) (K : PySem.W.Frag) (H : Hp) (r rl tl : Addr) (ls : List Addr) (rv : List (List V)) (ys : List V) (rq : List (List Rat)) (ts : List Rat) (w : Nat) : Prop where
  R : Rg H r
  rr : rl ≠ r
  tr : tl ≠ r
  hr : H rl = some (.lst (ls.map V.ref))
  ht : H tl = some (.lst ys)
  lr : ∀ l ∈ ls, l ≠ r
  hl : ∀ (k : Nat) l zs, ls[k]? = some l → rv[k]? = some zs → H l = some (.lst zs)
  ll : ls.length = rv.length
  yl : ys.length = rv.length
  ql : rq.length = rv.length
  r1 : 1 ≤ rv.length
  r5 : rv.length ≤ M
  w1 : 1 ≤ w
  w5 : w ≤ M
  wl : ∀ zs ∈ rv, zs.length = w
  fr : ∀ (k : Nat) zs qs, rv[k]? = some zs → rq[k]? = some qs → FRs K H zs qs B
  dq : ∀ qs ∈ rq, ∀ q ∈ qs, DvQ P q
  ft : FRs K H ys ts B
  dt : ∀ q ∈ ts, DvQ P q
theorem SN.kp {M B : Nat} {P : Int} {K : PySem.W.Frag} {H H' : Hp} {r rl tl : Addr} {ls : List Addr} {rv : List (List V)} {ys : List V} {rq : List (List Rat)} {ts : List Rat} {w : Nat} (h : SN M B P K H r rl tl ls rv ys rq ts w) (k : Kp r H H') (R : Rg H' r) : SN M B P K H' r rl tl ls rv ys rq ts w :=
  { h with
    R := R
    hr := k.1 _ _ h.rr h.hr
    ht := k.1 _ _ h.tr h.ht
    hl := fun i l zs a b => k.1 _ _ (h.lr l (List.mem_of_getElem? a)) (h.hl i l zs a b)
    fr := fun i zs qs a b => (h.fr i zs qs a b).mono fun _ _ z => FR.kp z h.R k
    ft := h.ft.mono fun _ _ z => FR.kp z h.R k }
theorem SN.same {M B : Nat} {P : Int} {K : PySem.W.Frag} {H H' : Hp} {r rl tl : Addr} {ls : List Addr} {rv : List (List V)} {ys : List V} {rq : List (List Rat)} {ts : List Rat} {w : Nat} (h : SN M B P K H r rl tl ls rv ys rq ts w) (s : Same H H') : SN M B P K H' r rl tl ls rv ys rq ts w := h.kp (Kp.of s) (h.R.same s)
theorem SN.eqs {M B G : Nat} {P : Int} (M9 : M ≤ 900) (B0 : 0 < B) (B8 : B ≤ 8000) (P0 : 0 < P) (pB : P.natAbs ≤ 2 ^ G) (G8 : G + 1 ≤ 8000) {K : PySem.W.Frag} {H : Hp} {r rl tl : Addr} {ls : List Addr} {rv : List (List V)} {ys : List V} {rq : List (List Rat)} {ts : List Rat} {w : Nat} (h : SN M B P K H r rl tl ls rv ys rq ts w) : EqsAt false false false K H rl tl rv ys rq ts w B G P where
  rows := ⟨ls, SqL.of h.hr, h.ll, fun k l zs a b => SqL.of (h.hl k l zs a b)⟩
  tgt := SqL.of h.ht
  yl := h.yl
  wl := h.wl
  r0 := fun z => by have := h.r1; rw [z] at this; exact absurd this (by decide)
  rl := by have := h.r5; omega
  w9 := by have := h.w5; omega
  ql := h.ql
  fr := h.fr
  ft := h.ft
  B0 := B0
  B8 := B8
  P0 := P0
  pr := h.dq
  pt := h.dt
  pB := pB
  G8 := G8
theorem Same.wr {H Hx : Hp} {v : Addr} {o : HO} (s : Same H Hx) (n : H v = none) : Same H (upd Hx v o) := fun b u e => by
  rw [upd_ne (ne_of_none e n)]
  exact s _ _ e
theorem eqd_fr {K : PySem.W.Frag} {H : Hp} {v u : V} {n d : Int} (a : Fr K H v n d) (b : Fr K H u n d) : Eqd K H 1 v u := by
  obtain ⟨p, rfl, h1⟩ := a
  obtain ⟨q, rfl, h2⟩ := b
  exact .inr ⟨p, q, _, _, rfl, rfl, .inr ⟨h1, h2⟩, rfl, by show 2 ≤ 100000; decide, all2_cons (Eqd.atom rfl) (all2_cons (Eqd.atom rfl) all2_nil)⟩
/-- the answer as data -/
def ansD (kind : Str) (qs : List Rat) : PyData := .tuple [.str kind, .list (qs.map qd)]
theorem ans_at {K : PySem.W.Frag} {H : Hp} {t v : Addr} {kind : Str} {xs : List V} {qs : List Rat} {B : Nat} (ht : SqT K H t [.str kind, .ref v]) (hv : SqL K H v xs) (hF : FRs K H xs qs B) : DaT.At K H 50 (.ref t) (ansD kind qs) := by
  obtain ⟨d1, d2⟩ := hF.dats (n := 47)
  exact DaT.At.tup (n := 49) ht rfl (DaT.pr_cons DaT.At.str (DaT.pr_cons (DaT.At.lst (n := 48) hv d1 d2) DaT.pr_nil))
theorem show_qs {qs : List Rat} (h : ∀ q ∈ qs, Bt q 1000) : PyData.showableAll (qs.map qd) = true ∧ PyData.hasDictAll (qs.map qd) = false ∧ PyData.leavesShortAll 1001 (qs.map qd) = true ∧ PyData.bulkAll (qs.map qd) = 3 * qs.length := by
  induction qs with
  | nil => exact ⟨rfl, rfl, rfl, rfl⟩
  | cons q qs ih =>
    obtain ⟨a, b, c, d⟩ := ih fun x hx => h x (List.mem_cons_of_mem _ hx)
    have hq := h q List.mem_cons_self
    have l : ∀ {i : Int}, i.natAbs < 2 ^ 1000 → decide (i.natAbs.log2 < 1920) = true ∧ decide ((PyData.shown (.int i)).length ≤ 1001) = true := fun {i} hi => by
      have e := PySem.Flt.log2_lt_of (by decide) hi
      refine ⟨decide_eq_true (by omega), decide_eq_true ?_⟩
      show (Str.ofString (toString i)).length ≤ 1001
      rw [PySem.ofString_length]
      exact PySem.int_text_length_le (by decide) e
    obtain ⟨l1, l2⟩ := l hq.1
    obtain ⟨l3, l4⟩ := l hq.2
    refine ⟨?_, ?_, ?_, ?_⟩
    · show ((decide ((ofR q).1.natAbs.log2 < 1920) && (decide ((ofR q).2.natAbs.log2 < 1920) && true)) && PyData.showableAll (qs.map qd)) = true
      rw [l1, l3, a]
      rfl
    · show ((false || (false || false)) || PyData.hasDictAll (qs.map qd)) = false
      rw [b]
      rfl
    · show ((decide ((PyData.shown (.int (ofR q).1)).length ≤ 1001) && (decide ((PyData.shown (.int (ofR q).2)).length ≤ 1001) && true)) && PyData.leavesShortAll 1001 (qs.map qd)) = true
      rw [l2, l4, c]
      rfl
    · show (0 + 1 + (0 + 1 + 0)) + 1 + PyData.bulkAll (qs.map qd) = 3 * (qs.length + 1)
      rw [d]
      omega
theorem ans_show {kind : Str} {qs : List Rat} (k : kind = "solution" ∨ kind = "certificate") (h : ∀ q ∈ qs, Bt q 1000) (l : qs.length ≤ 100) : (ansD kind qs).showable = true ∧ (ansD kind qs).hasDict = false ∧ (ansD kind qs).shown.length ≤ sizeLine := by
  obtain ⟨a, b, c, d⟩ := show_qs h
  have ks : PyData.leavesShort 1001 (.str kind) = true ∧ PyData.bulk (.str kind) ≤ 20 := by
    rcases k with rfl | rfl
    · exact ⟨by decide +kernel, by decide +kernel⟩
    · exact ⟨by decide +kernel, by decide +kernel⟩
  refine ⟨?_, ?_, ?_⟩
  · show (true && (PyData.showableAll (qs.map qd) && true)) = true
    rw [a]
    rfl
  · show (false || (PyData.hasDictAll (qs.map qd) || false)) = false
    rw [b]
    rfl
  · have e : (ansD kind qs).leavesShort 1001 = true := by
      show (PyData.leavesShort 1001 (.str kind) && (PyData.leavesShortAll 1001 (qs.map qd) && true)) = true
      rw [ks.1, c]
      rfl
    have z := PyData.shown_le_bulk 1001 (by decide) (ansD kind qs) e
    have f : (ansD kind qs).bulk ≤ 1000 := by
      show PyData.bulk (.str kind) + 1 + (PyData.bulkAll (qs.map qd) + 1 + 0) ≤ 1000
      rw [d]
      have := ks.2
      omega
    have g : (1001 + 2) * (ansD kind qs).bulk ≤ 1003 * 1000 := Nat.mul_le_mul_left _ f
    exact Nat.le_trans (show _ ≤ 2000000 by omega) (by decide)
theorem SN.twice {M B : Nat} {P : Int} {K : PySem.W.Frag} {H H' : Hp} {r rl tl c c' : Addr} {ls : List Addr} {rv : List (List V)} {ys : List V} {rq : List (List Rat)} {ts : List Rat} {w : Nat} (h : SN M B P K H r rl tl ls rv ys rq ts w) (M9 : M = 24) (r24 : rv.length = 24) {l0 : Addr} {x0 : List V} {q0 : List Rat} {y v : V} {t s : Rat} {B2 : Nat} (BB : B ≤ B2) (k : Same H H') (R : Rg H' r) (cr : c ≠ r) (cr' : c' ≠ r)
    (e0 : ls[0]? = some l0) (ex : rv[0]? = some x0) (eq : rq[0]? = some q0) (hc : H' c = some (.lst ((ls.take 23 ++ [l0]).map V.ref))) (hc' : H' c' = some (.lst (ys.take 23 ++ [v]))) (fv : FR K H' v s B2) (dv : DvQ P s) :
    SN M B2 P K H' r c c' (ls.take 23 ++ [l0]) (rv.take 23 ++ [x0]) (ys.take 23 ++ [v]) (rq.take 23 ++ [q0]) (ts.take 23 ++ [s]) w := by
  have hll := h.ll
  have hyl := h.yl
  have hql := h.ql
  have tl0 : ts.length = 24 := by rw [← h.ft.len, hyl, r24]
  have cut : ∀ {α : Type} {xs : List α} {x z : α} {i : Nat}, xs.length = 24 → xs[0]? = some x → (xs.take 23 ++ [x])[i]? = some z → ∃ j, xs[j]? = some z ∧ j = (if i < 23 then i else 0) ∧ i < 24 := fun {α xs x z i} hl h0 hz => by
    by_cases hi : i < 23
    · rw [List.getElem?_append_left (by rw [List.length_take]; omega), List.getElem?_take, if_pos hi] at hz
      exact ⟨i, hz, by rw [if_pos hi], by omega⟩
    · rw [List.getElem?_append_right (by rw [List.length_take]; omega), List.length_take, hl] at hz
      have ei : i = 23 := by
        have := (List.getElem?_eq_some_iff.mp hz).1
        have : i - min 23 24 < 1 := this
        omega
      subst ei
      cases hz
      exact ⟨0, h0, by rw [if_neg hi], by omega⟩
  refine ⟨R, cr, cr', hc, hc', fun l hm => ?_, fun k' l zs a b => ?_, ?_, ?_, ?_, ?_, ?_, h.w1, h.w5, fun zs hm => ?_, fun k' zs qs a b => ?_, fun qs hm q hq => ?_, ?_, fun q hm => ?_⟩
  · rcases List.mem_append.mp hm with h1 | h1
    · exact h.lr l (List.mem_of_mem_take h1)
    · rw [List.mem_singleton.mp h1]; exact h.lr _ (List.mem_of_getElem? e0)
  · obtain ⟨i, a1, a2, a3⟩ := cut (by omega) e0 a
    obtain ⟨j, b1, b2, b3⟩ := cut (by omega) ex b
    rw [← a2] at b2
    subst b2
    exact k _ _ (h.hl _ l zs a1 b1)
  · rw [List.length_append, List.length_append, List.length_take, List.length_take, hll]; rfl
  · rw [List.length_append, List.length_append, List.length_take, List.length_take, hyl]; rfl
  · rw [List.length_append, List.length_append, List.length_take, List.length_take, hql]; rfl
  · rw [List.length_append]; show 1 ≤ _ + 1; omega
  · rw [List.length_append, List.length_take]; show min 23 rv.length + 1 ≤ M; omega
  · rcases List.mem_append.mp hm with h1 | h1
    · exact h.wl zs (List.mem_of_mem_take h1)
    · rw [List.mem_singleton.mp h1]; exact h.wl _ (List.mem_of_getElem? ex)
  · obtain ⟨i, a1, a2, a3⟩ := cut (by omega) ex a
    obtain ⟨j, b1, b2, b3⟩ := cut (by omega) eq b
    rw [← a2] at b2
    subst b2
    exact (h.fr _ zs qs a1 b1).mono fun _ _ z => (z.same k).up BB
  · rcases List.mem_append.mp hm with h1 | h1
    · exact h.dq qs (List.mem_of_mem_take h1) q hq
    · rw [List.mem_singleton.mp h1] at hq; exact h.dq _ (List.mem_of_getElem? eq) q hq
  · exact ((h.ft.take 23).mono fun _ _ z => (z.same k).up BB).snoc fv
  · rcases List.mem_append.mp hm with h1 | h1
    · exact h.dt q (List.mem_of_mem_take h1)
    · rw [List.mem_singleton.mp h1]; exact dv
/-- the first equation once more with another target: no solution -/
theorem twice_no {rq : List (List Rat)} {ts qs q0 : List Rat} {w : Nat} {t0 : Rat} (rl : rq.length = 24) (tl : ts.length = 24) (eq : rq[0]? = some q0) (et : ts[0]? = some t0) (w0 : q0.length = w) (h : solOk (rq.take 23 ++ [q0]) (ts.take 23 ++ [t0 + 1]) qs w = true) : False := by
  unfold solOk at h
  rw [Bool.and_eq_true, decide_eq_true_iff] at h
  obtain ⟨h1, h2⟩ := h
  have el : (rq.take 23).length = (ts.take 23).length := by rw [List.length_take, List.length_take, rl, tl]
  rw [List.zip_append el, List.all_append, Bool.and_eq_true] at h2
  have z0 : ((rq.take 23).zip (ts.take 23))[0]? = some (q0, t0) := List.getElem?_zip_eq_some.mpr ⟨by rw [List.getElem?_take, if_pos (by decide)]; exact eq, by rw [List.getElem?_take, if_pos (by decide)]; exact et⟩
  have a := of_decide_eq_true (List.all_eq_true.mp h2.1 _ (List.mem_of_getElem? z0))
  have b := of_decide_eq_true (List.all_eq_true.mp h2.2 (q0, t0 + 1) (by show _ ∈ [(q0, t0 + 1)]; exact List.mem_cons_self))
  have e1 : dotR (q0 ++ [t0]) (qs ++ [-1]) = dotR q0 qs + t0 * (-1) := Bar.dot_app (by omega)
  have e2 : dotR (q0 ++ [t0 + 1]) (qs ++ [-1]) = dotR q0 qs + (t0 + 1) * (-1) := Bar.dot_app (by omega)
  rw [e1] at a
  rw [e2] at b
  grind
/-- equations without unknowns -/
theorem sv0 {K : PySem.W.Frag} {H : Hp} {R y : Addr} {ls : List Addr} {ys : List V} {ts : List Rat} {Q : VK} {E : XK} (c : Bool) (hR : H R = some (.lst (ls.map V.ref))) (hl : ∀ l ∈ ls, H l = some (.lst [])) (hy : H y = some (.lst ys)) (l1 : ys.length = ls.length) (l9 : ls.length ≤ 1) (ft : FRs K H ys ts 2) (dt : ∀ q ∈ ts, DvQ 1 q)
    (hc : c = false → ∀ q ∈ ts, q = 0) (hd : c = true → ∃ t, ts = [t] ∧ t ≠ 0)
    (k : ∀ (t v : Addr) (xs : List V) (H' : Hp), Same H H' → SqT K H' t [.str (if c then "certificate" else "solution"), .ref v] → H' v = some (.lst xs) → (c = false → xs = []) → Q (.ref t) H') : spSolveL K [.ref R, .ref y] H Q E := by
  refine ⟨false, false, false, R, y, _, ys, _, ts, 0, 2, 1, 2, 20, 1, rfl, eqs0 hR hl hy l1 (by omega) ft dt, .inl rfl, by decide, by rw [List.length_replicate]; omega, by decide, by rw [List.length_replicate]; omega, by decide, fun t v kind xs qs E' H' s' nt ht nv hv tv hF E0 dE EB hk hsq => ?_⟩
  have xl := hF.len
  have tl : ts.length = ls.length := by rw [← ft.len, l1]
  cases c with
  | false =>
    rcases hk with ⟨h1, h2⟩ | ⟨h1, h2⟩
    · subst h1
      refine k t v xs H' s' ht hv fun _ => ?_
      unfold solOk at h2
      rw [Bool.and_eq_true, decide_eq_true_iff] at h2
      exact List.eq_nil_of_length_eq_zero (by omega)
    · exfalso
      unfold certOk at h2
      simp only [Bool.and_eq_true, decide_eq_true_iff, Bool.not_eq_true', decide_eq_false_iff_not] at h2
      apply h2.2.2
      have z : ∀ q ∈ ts, q = 0 := hc rfl
      have key : ∀ {ts qs : List Rat}, (∀ q ∈ ts, q = 0) → dotR ts qs = 0 := fun {ts} => by
        induction ts with
        | nil => intro qs _; rfl
        | cons t ts ih =>
          intro qs hz
          cases qs with
          | nil => rfl
          | cons q qs =>
            show t * q + dotR ts qs = 0
            rw [ih fun x hx => hz x (List.mem_cons_of_mem _ hx), hz t List.mem_cons_self]
            grind
      exact key z
  | true =>
    obtain ⟨t0, rfl, n0⟩ := hd rfl
    rcases hk with ⟨h1, h2⟩ | ⟨h1, h2⟩
    · exfalso
      have l2 : ls.length = 1 := tl.symm
      unfold solOk at h2
      rw [Bool.and_eq_true, decide_eq_true_iff] at h2
      obtain ⟨e1, e2⟩ := h2
      have eq : qs = [] := List.eq_nil_of_length_eq_zero e1
      rw [l2, eq] at e2
      have := of_decide_eq_true (List.all_eq_true.mp e2 (([] : List Rat), t0) (by show _ ∈ [(([] : List Rat), t0)]; exact List.mem_cons_self))
      have e3 : dotR ([] ++ [t0]) ([] ++ [-1]) = t0 * (-1) + 0 := rfl
      rw [e3] at this
      apply n0
      grind
    · subst h1
      exact k t v xs H' s' ht hv fun z => by cases z

theorem ok_p_law (T : Txt K mg a) : GdL.RunG P w K mg base 22 a.f_p_law a.fd_p_law ["_law_script"] (sp_p_law K) := by
  have G_l_source := ok_l_source (P := P) (w := w) (base := base) T
  have G_p_solve_linear := ok_p_solve_linear (P := P) (w := w) (base := base) T
  have G_l_equal := ok_l_equal (P := P) (w := w) (base := base) T
  have G_l_linear_case := ok_l_linear_case (P := P) (w := w) (base := base) T
  have G_l_draw := ok_l_draw (P := P) (w := w) (base := base) T
  have G_l_small := ok_l_small (P := P) (w := w) (base := base) T
  have G_l_check_solution := ok_l_check_solution (P := P) (w := w) (base := base) T
  have G_l_add := ok_l_add (P := P) (w := w) (base := base) T
  have G_l_reduce := ok_l_reduce (P := P) (w := w) (base := base) T
  obtain ⟨_, kb_p_solve_linear_0_targets_rows⟩ := T.kb_p_solve_linear_0_targets_rows
  refine GdL.run_of T.F_p_law sc_p_law (fun vs H Q E h => ?_) (fun cdv A outer s H vs Q E hg hr h => ?_)
  · obtain ⟨b, ns, rfl, _⟩ := h
    rfl
  obtain ⟨b, ns, rfl, hS, hlen, w'⟩ := h
  refine ⟨_, (pss_cons (ps_set (i := 1) sc_p_law.nd rfl (by first | exact Or.inl rfl | exact Or.inr rfl) (pe_call G_l_source (hr.mono (by first | decide | omega)) (by rfl) T.g_l_source T.F_l_source.kp T.b_l_source .nil pass0 (pa_cons (pv 0) pa_nil)))
      (pss_cons (ps_for PassesOwn.never rfl (pi_range1 (by rfl) T.n_range (pa_cons pe_int pa_nil)) (pg_name (i := 2) sc_p_law.nd rfl (by first | exact Or.inl rfl | exact Or.inr rfl)) (pss_cons (ps_asg (pe_call G_l_linear_case (hr.mono (by first | decide | omega)) (by rfl) T.g_l_linear_case T.F_l_linear_case.kp T.b_l_linear_case .nil pass0 (pa_cons (pv 1) pa_nil)) (pg_tup rfl (pgs_cons (pg_name (i := 3) sc_p_law.nd rfl (by first | exact Or.inl rfl | exact Or.inr rfl)) (pgs_cons (pg_name (i := 4) sc_p_law.nd rfl (by first | exact Or.inl rfl | exact Or.inr rfl)) pgs_nil))))
      (pss_cons (ps_set (i := 5) sc_p_law.nd rfl (by first | exact Or.inl rfl | exact Or.inr rfl) (pe_lst (pa_cons (pe_lc (own := [("_law_row", 11)]) (g := gName 11) rfl sc_p_law.nd (pi_list (pv 3)) (blkOk_by (own := [("_law_row", 11)]) (N := ["_law_script", "_law_rng", "_law_turn", "_law_my_rows", "_law_my_targets", "_law_argument", "_law_answer", "_law_text", "_law_twice", "_law_late", "_law_found", "_law_row", "_law_x", "_law_pos", "_law_k"]) (sc := defScope s_p_law) (by decide +kernel)) (fun _ _ _ _ _ => (pg_name (i := 11) sc_p_law.nd rfl (Or.inl rfl))) (fun _ _ _ _ _ => pts_nil) (fun _ _ _ _ _ => (pe_callTy (listK (K := K) rfl) (by rfl) T.n_list (by decide +kernel) (pa_cons (pv 11) pa_nil)))) (pa_cons (pe_callTy call_list_of (by rfl) T.n_list (by decide +kernel) (pa_cons (pv 4) pa_nil)) pa_nil))))
      (pss_cons (ps_set (i := 6) sc_p_law.nd rfl (by first | exact Or.inl rfl | exact Or.inr rfl) (pe_call G_p_solve_linear (hr.mono (by first | decide | omega)) (by rfl) T.g_p_solve_linear T.F_p_solve_linear.kp T.b_p_solve_linear .nil pass0 (pa_cons (pe_ix ix_list (pv 5) pe_int (fun _ _ => rfl)) (pa_cons (pe_ix ix_list (pv 5) pe_int (fun _ _ => rfl)) pa_nil))))
      (pss_cons (ps_if (PW.pt (pw_or (pt_cmpR (SmE.op_neG hr.units) (pv 5) (pe_lst (pa_cons (pv 3) (pa_cons (pv 4) pa_nil))) (nomark _)) (pw_or (pt_not (pt_val (pe_callB call_isi (by rfl) T.n_isinstance (by decide +kernel) (pa_cons (pv 6) (pa_cons (pe_bltn (v := .ty "tuple") (by rfl) T.n_tuple (by decide +kernel) rfl) pa_nil))))) (pw_or (pt_cmpR op_ne (pe_callB call_len (by rfl) T.n_len (by decide +kernel) (pa_cons (pv 6) pa_nil)) pe_int (nomark _)) (pw_or1 (pt_not (pt_val (pe_callB call_isi (by rfl) T.n_isinstance (by decide +kernel) (pa_cons (pe_ix ix_tup (pv 6) pe_int (fun _ _ => rfl)) (pa_cons (pe_bltn (v := .ty "list") (by rfl) T.n_list (by decide +kernel) rfl) pa_nil)))))))))) (pss_one (ps_ret pe_bl)) pss_nil)
      (pss_cons (ps_if (PW.pt (pw_or (pt_cmpR (DaT.op_notIn hr.units) (pe_ix ix_tup (pv 6) pe_int (fun _ _ => rfl)) (pe_tup (pa_cons pe_str (pa_cons pe_str pa_nil))) (by rfl)) (pw_or1 (pt_not (pt_val (pe_call G_l_check_solution (hr.mono (by first | decide | omega)) (by rfl) T.g_l_check_solution T.F_l_check_solution.kp T.b_l_check_solution .nil pass0 (pa_cons (pv 3) (pa_cons (pv 4) (pa_cons (pv 6) pa_nil))))))))) (pss_one (ps_ret pe_bl)) pss_nil)
      (pss_cons (ps_if (pt_not (pt_val (pe_callB (cr_all rfl) (by rfl) T.n_all (by decide +kernel) (pa_cons (pe_lc (own := [("_law_x", 12)]) (g := gName 12) rfl sc_p_law.nd (pi_list (pe_ix ix_tup (pv 6) pe_int (fun _ _ => rfl))) (blkOk_by (own := [("_law_x", 12)]) (N := ["_law_script", "_law_rng", "_law_turn", "_law_my_rows", "_law_my_targets", "_law_argument", "_law_answer", "_law_text", "_law_twice", "_law_late", "_law_found", "_law_row", "_law_x", "_law_pos", "_law_k"]) (sc := defScope s_p_law) (by decide +kernel)) (fun _ _ _ _ _ => (pg_name (i := 12) sc_p_law.nd rfl (Or.inl rfl))) (fun _ _ _ _ _ => pts_nil) (fun _ _ _ _ _ => (pe_call G_l_equal (hr.mono (by first | decide | omega)) (by rfl) T.g_l_equal T.F_l_equal.kp T.b_l_equal .nil pass0 (pa_cons (pv 12) (pa_cons (pe_call G_l_reduce (hr.mono (by first | decide | omega)) (by rfl) T.g_l_reduce T.F_l_reduce.kp T.b_l_reduce .nil pass0 (pa_cons (pe_ix (ixT (K := K) rfl) (pv 12) pe_int (fun _ _ => rfl)) (pa_cons (pe_ix (ixT (K := K) rfl) (pv 12) pe_int (fun _ _ => rfl)) pa_nil))) pa_nil))))) pa_nil)))) (pss_one (ps_ret pe_bl)) pss_nil)
      (pss_cons (ps_set (i := 7) sc_p_law.nd rfl (by first | exact Or.inl rfl | exact Or.inr rfl) (pe_callB (GdL.call_reprD (GdL.gD hg) (hr.units)) (by rfl) T.n_repr (by decide +kernel) (pa_cons (pv 6) pa_nil)))
      (pss_cons (ps_expr (pe_bm PySem.F.plainAttrs_list PySem.F.slot_list_append PySem.F.type_list_append mt_append (pe_ix ix_tup (pv 6) pe_int (fun _ _ => rfl)) (pa_cons pe_int pa_nil)))
      (pss_one (ps_if (pt_cmpR op_ne (pe_callB (GdL.call_reprD (GdL.gD hg) (hr.units)) (by rfl) T.n_repr (by decide +kernel) (pa_cons (pe_callN0 G_p_solve_linear (hr.mono (by first | decide | omega)) (by rfl) T.g_p_solve_linear T.F_p_solve_linear.kp kb_p_solve_linear_0_targets_rows pass0 (pk_cons (pe_callTy call_tuple_of (by rfl) T.n_tuple (by decide +kernel) (pa_cons (pv 4) pa_nil)) (pk_cons (pe_lc (own := [("_law_row", 11)]) (g := gName 11) rfl sc_p_law.nd (pi_list (pv 3)) (blkOk_by (own := [("_law_row", 11)]) (N := ["_law_script", "_law_rng", "_law_turn", "_law_my_rows", "_law_my_targets", "_law_argument", "_law_answer", "_law_text", "_law_twice", "_law_late", "_law_found", "_law_row", "_law_x", "_law_pos", "_law_k"]) (sc := defScope s_p_law) (by decide +kernel)) (fun _ _ _ _ _ => (pg_name (i := 11) sc_p_law.nd rfl (Or.inl rfl))) (fun _ _ _ _ _ => pts_nil) (fun _ _ _ _ _ => (pe_callTy (tupleK (K := K) rfl) (by rfl) T.n_tuple (by decide +kernel) (pa_cons (pv 11) pa_nil)))) pk_nil))) pa_nil)) (pv 7) (nomark _)) (pss_one (ps_ret pe_bl)) pss_nil)))))))))))
      (pss_cons (ps_setLc (i := 3) (own := [("_law_pos", 13)]) (g := gName 13) rfl sc_p_law.nd rfl rfl (sw_true rfl rfl rfl (by decide +kernel)) (pi_range1 (by rfl) T.n_range (pa_cons pe_int pa_nil)) (blkOk_by (own := [("_law_pos", 13)]) (N := ["_law_script", "_law_rng", "_law_turn", "_law_my_rows", "_law_my_targets", "_law_argument", "_law_answer", "_law_text", "_law_twice", "_law_late", "_law_found", "_law_row", "_law_x", "_law_pos", "_law_k"]) (sc := defScope s_p_law) (by decide +kernel)) (fun _ _ _ _ _ => (pg_name (i := 13) sc_p_law.nd rfl (by first | exact Or.inl rfl | exact Or.inr rfl))) (fun _ _ _ _ _ => pts_nil) (fun _ _ _ _ _ => (pe_lc (own := [("_law_k", 14)]) (g := gName 14) rfl sc_p_law.nd (pi_range1 (by rfl) T.n_range (pa_cons pe_int pa_nil)) (blkOk_by (own := [("_law_k", 14)]) (N := ["_law_script", "_law_rng", "_law_turn", "_law_my_rows", "_law_my_targets", "_law_argument", "_law_answer", "_law_text", "_law_twice", "_law_late", "_law_found", "_law_row", "_law_x", "_law_pos", "_law_k"]) (by kernel_rfl)) (fun _ _ _ _ _ => (pg_name (i := 14) sc_p_law.nd rfl (by first | exact Or.inl rfl | exact Or.inr rfl))) (fun _ _ _ _ _ => pts_nil) (fun _ _ _ _ _ => (pe_tup (pa_cons (pe_callTy (intBK (K := K) rfl) (by rfl) T.n_int (by decide +kernel) (pa_cons (pe_cmpR op_eq (pv 14) (pv 13) (nomark _)) pa_nil)) (pa_cons pe_int pa_nil)))))))
      (pss_cons (ps_asg (pe_lc (own := [("_law_k", 14)]) (g := gName 14) rfl sc_p_law.nd (pi_range1 (by rfl) T.n_range (pa_cons pe_int pa_nil)) (blkOk_by (own := [("_law_k", 14)]) (N := ["_law_script", "_law_rng", "_law_turn", "_law_my_rows", "_law_my_targets", "_law_argument", "_law_answer", "_law_text", "_law_twice", "_law_late", "_law_found", "_law_row", "_law_x", "_law_pos", "_law_k"]) (sc := defScope s_p_law) (by decide +kernel)) (fun _ _ _ _ _ => (pg_name (i := 14) sc_p_law.nd rfl (by first | exact Or.inl rfl | exact Or.inr rfl))) (fun _ _ _ _ _ => pts_nil) (fun _ _ _ _ _ => (pe_tup (pa_cons (pe_op op_add pe_int (pe_call G_l_draw (hr.mono (by first | decide | omega)) (by rfl) T.g_l_draw T.F_l_draw.kp T.b_l_draw .nil pass0 (pa_cons (pv 1) (pa_cons pe_int pa_nil)))) (pa_cons pe_int pa_nil))))) (pg_sub (pv 3) (pe_call G_l_draw (hr.mono (by first | decide | omega)) (by rfl) T.g_l_draw T.F_l_draw.kp T.b_l_draw .nil pass0 (pa_cons (pv 1) (pa_cons pe_int pa_nil))) set_list))
      (pss_cons (ps_setLc (i := 4) (own := [("_law_row", 11)]) (g := gName 11) rfl sc_p_law.nd rfl rfl (sw_true rfl rfl rfl (by decide +kernel)) (pi_list (pv 3)) (blkOk_by (own := [("_law_row", 11)]) (N := ["_law_script", "_law_rng", "_law_turn", "_law_my_rows", "_law_my_targets", "_law_argument", "_law_answer", "_law_text", "_law_twice", "_law_late", "_law_found", "_law_row", "_law_x", "_law_pos", "_law_k"]) (sc := defScope s_p_law) (by decide +kernel)) (fun _ _ _ _ _ => (pg_name (i := 11) sc_p_law.nd rfl (Or.inl rfl))) (fun _ _ _ _ _ => pts_nil) (fun _ _ _ _ _ => (pe_call G_l_small (hr.mono (by first | decide | omega)) (by rfl) T.g_l_small T.F_l_small.kp T.b_l_small .nil pass0 (pa_cons (pv 1) pa_nil))))
      (pss_cons (ps_if (pt_not (pt_val (pe_call G_l_check_solution (hr.mono (by first | decide | omega)) (by rfl) T.g_l_check_solution T.F_l_check_solution.kp T.b_l_check_solution .nil pass0 (pa_cons (pv 3) (pa_cons (pv 4) (pa_cons (pe_call G_p_solve_linear (hr.mono (by first | decide | omega)) (by rfl) T.g_p_solve_linear T.F_p_solve_linear.kp T.b_p_solve_linear .nil pass0 (pa_cons (pv 3) (pa_cons (pv 4) pa_nil))) pa_nil)))))) (pss_one (ps_ret pe_bl)) pss_nil)
      (pss_cons (ps_set (i := 8) sc_p_law.nd rfl (by first | exact Or.inl rfl | exact Or.inr rfl) (pe_op op_cat (pe_slice sl_list (pv 3) po_none (po_some pe_int)) (pe_lst (pa_cons (pe_ix ix_list (pv 3) pe_int (fun _ _ => rfl)) pa_nil))))
      (pss_cons (ps_set (i := 9) sc_p_law.nd rfl (by first | exact Or.inl rfl | exact Or.inr rfl) (pe_op op_cat (pe_slice sl_list (pv 4) po_none (po_some pe_int)) (pe_lst (pa_cons (pe_call G_l_add (hr.mono (by first | decide | omega)) (by rfl) T.g_l_add T.F_l_add.kp T.b_l_add .nil pass0 (pa_cons (pe_ix ix_list (pv 4) pe_int (fun _ _ => rfl)) (pa_cons (pe_tup (pa_cons pe_int (pa_cons pe_int pa_nil))) pa_nil))) pa_nil))))
      (pss_cons (ps_set (i := 6) sc_p_law.nd rfl (by first | exact Or.inl rfl | exact Or.inr rfl) (pe_call G_p_solve_linear (hr.mono (by first | decide | omega)) (by rfl) T.g_p_solve_linear T.F_p_solve_linear.kp T.b_p_solve_linear .nil pass0 (pa_cons (pv 8) (pa_cons (pv 9) pa_nil))))
      (pss_cons (ps_if (PW.pt (pw_or (pt_cmpR op_ne (pe_ix ix_tup (pv 6) pe_int (fun _ _ => rfl)) pe_str (nomark _)) (pw_or1 (pt_not (pt_val (pe_call G_l_check_solution (hr.mono (by first | decide | omega)) (by rfl) T.g_l_check_solution T.F_l_check_solution.kp T.b_l_check_solution .nil pass0 (pa_cons (pv 8) (pa_cons (pv 9) (pa_cons (pv 6) pa_nil))))))))) (pss_one (ps_ret pe_bl)) pss_nil)
      (pss_cons (ps_set (i := 10) sc_p_law.nd rfl (by first | exact Or.inl rfl | exact Or.inr rfl) (pe_lst (pa_cons (pe_call G_p_solve_linear (hr.mono (by first | decide | omega)) (by rfl) T.g_p_solve_linear T.F_p_solve_linear.kp T.b_p_solve_linear .nil pass0 (pa_cons (pe_lst pa_nil) (pa_cons (pe_lst pa_nil) pa_nil))) (pa_cons (pe_call G_p_solve_linear (hr.mono (by first | decide | omega)) (by rfl) T.g_p_solve_linear T.F_p_solve_linear.kp T.b_p_solve_linear .nil pass0 (pa_cons (pe_lst (pa_cons (pe_lst pa_nil) pa_nil)) (pa_cons (pe_lst (pa_cons (pe_tup (pa_cons pe_int (pa_cons pe_int pa_nil))) pa_nil)) pa_nil))) (pa_cons (pe_ix ix_tup (pe_call G_p_solve_linear (hr.mono (by first | decide | omega)) (by rfl) T.g_p_solve_linear T.F_p_solve_linear.kp T.b_p_solve_linear .nil pass0 (pa_cons (pe_lst (pa_cons (pe_lst pa_nil) pa_nil)) (pa_cons (pe_lst (pa_cons (pe_tup (pa_cons pe_int (pa_cons pe_int pa_nil))) pa_nil)) pa_nil))) pe_int (fun _ _ => rfl)) pa_nil)))))
      (pss_one (ps_ret (pe_call G_l_equal (hr.mono (by first | decide | omega)) (by rfl) T.g_l_equal T.F_l_equal.kp T.b_l_equal .nil pass0 (pa_cons (pv 10) (pa_cons (pe_lst (pa_cons (pe_tup (pa_cons pe_str (pa_cons (pe_lst pa_nil) pa_nil))) (pa_cons (pe_tup (pa_cons pe_str (pa_cons (pe_lst pa_nil) pa_nil))) (pa_cons pe_str pa_nil)))) pa_nil)))))))))))))))), ?_⟩
  refine ⟨.ref b, rfl, b, ns, rfl, hS, hlen, fun H0 r s0 nr R0 => ?_⟩
  refine ⟨4, rfl, by decide, by decide, for_range (n := 4) (fun _ σ H' => ∃ y2 y3 y4 y5 y6 y7, σ = [some (.ref b), some (.ref r), y2, y3, y4, y5, y6, y7, none, none, none, none, none, none, none] ∧ Rg H' r) ⟨none, none, none, none, none, none, rfl, R0⟩ ?_ ?_⟩
  rotate_left
  · rintro σ H' ⟨y2, y3, y4, y5, y6, y7, rfl, R1⟩
    clear s0 nr R0 hS
    -- the great one
    refine ⟨24, rfl, by decide, by decide, fun D nD => ?_⟩
    have Dr : D ≠ r := R1.ne nD
    refine ⟨fun i m H4 => i + m = 24 ∧ Same H' H4 ∧ ∃ xs, H4 D = some (.lst xs) ∧ xs.length = i ∧ ∀ x ∈ xs, VecD 1 K H4 5 24 [r, D] x, ⟨24, by omega, Same.new nD, [], upd_same, rfl, fun j hj => by cases hj⟩, fun i m H4 hW => ?_⟩
    obtain ⟨em, s4, xs, hD, xl, hX⟩ := hW
    by_cases hlt : i < 24
    · refine .inr ⟨(show i < ((24 : Int)).toNat by omega), fun H5 => Same H' H5 ∧ ∃ xs, H5 D = some (.lst xs) ∧ xs.length = i + 1 ∧ ∀ x ∈ xs, VecD 1 K H5 5 24 [r, D] x, fun H5 hN => ⟨m - 1, by omega, by omega, hN⟩, fun v H5 hy => ?_⟩
      obtain ⟨rfl, rfl⟩ := hy
      refine ⟨rfl, tYes_if ?_⟩
      refine ⟨24, rfl, by decide, by decide, fun D2 nD2 => ?_⟩
      have D2r : D2 ≠ r := (R1.same s4).ne nD2
      have DD2 : D ≠ D2 := ne_of_none hD nD2
      refine ⟨fun j m' H6 => j + m' = 24 ∧ Same H5 H6 ∧ ∃ zs, H6 D2 = some (.lst zs) ∧ zs.length = j ∧ FOd 1 K H6 5 zs, ⟨24, by omega, Same.new nD2, [], upd_same, rfl, FOd.nil⟩, fun j m' H6 hW => ?_⟩
      obtain ⟨em', s6, zs, hD6, zl, hZ⟩ := hW
      by_cases hjt : j < 24
      · refine .inr ⟨(show j < ((24 : Int)).toNat by omega), fun H7 => Same H5 H7 ∧ ∃ zs, H7 D2 = some (.lst zs) ∧ zs.length = j + 1 ∧ FOd 1 K H7 5 zs, fun H7 hN => ⟨m' - 1, by omega, by omega, hN⟩, fun v H7 hy => ?_⟩
        obtain ⟨rfl, rfl⟩ := hy
        refine ⟨rfl, tYes_if ?_⟩
        refine ⟨_, rfl, _, rfl, rfl, .inr ⟨_, rfl, sz (by show 2 ≤ 100000; decide), fun p np => ?_⟩⟩
        generalize hc : (if decide (V.int (0 + (j : Int)) = V.int (0 + (i : Int))) = true then (1 : Int) else 0) = c
        have c01 : c = 0 ∨ c = 1 := by rw [← hc]; split <;> simp
        have fp : FrB K (upd H7 p (.tup [.int c, .int 1])) (.ref p) c 1 5 := ⟨Fr.new, by decide, by rw [Int.gcd_one], by rcases c01 with rfl | rfl <;> decide, by decide⟩
        have fd := FD.small fp (Int.dvd_refl 1)
        have sp := Same.new (o := .tup [.int c, .int 1]) np
        have hD7 := sp _ _ hD6
        refine ⟨zs, hD7, szl (by omega), fun c' o e => ?_, zs ++ [.ref p], upd_same, by rw [List.length_append, zl]; rfl, ((hZ.same sp).put hD7).snoc (fd.put hD7)⟩
        rw [upd_ne (ne_of_none e nD2)]
        exact sp _ _ (s6 _ _ e)
      · have ej : j = 24 := by omega
        subst ej
        refine .inl ⟨(show ((24 : Int)).toNat ≤ 24 by decide), ?_⟩
        have hD6' := s6 _ _ hD
        refine ⟨xs, hD6', szl (by omega), fun c' o e => ?_, xs ++ [.ref D2], upd_same, by rw [List.length_append, xl]; rfl, fun x hx => ?_⟩
        · rw [upd_ne (ne_of_none e nD)]
          exact s6 _ _ (s4 _ _ e)
        · rcases List.mem_append.mp hx with h | h
          · exact ((hX x h).same s6).put hD6' (List.mem_cons_of_mem _ List.mem_cons_self)
          · rw [List.mem_singleton.mp h]
            refine VecD.put ⟨D2, zs, rfl, ?_, hD6, zl, hZ⟩ hD6' (List.mem_cons_of_mem _ List.mem_cons_self)
            intro hm
            rcases List.mem_cons.mp hm with e | e
            · exact D2r e
            · exact DD2 (List.mem_singleton.mp e).symm
    have ei : i = 24 := by omega
    subst ei
    refine .inl ⟨(show ((24 : Int)).toNat ≤ 24 by decide), ?_⟩
    have R4 := R1.same s4
    clear hlt em
    dsimp only
    -- one row more
    refine ⟨24, rfl, by decide, by decide, fun L nL => ?_⟩
    have Lr : L ≠ r := R4.ne nL
    have LD : L ≠ D := (ne_of_none hD nL).symm
    refine ⟨fun j m' H6 => j + m' = 24 ∧ Kp r H4 H6 ∧ Rg H6 r ∧ ∃ zs, H6 L = some (.lst zs) ∧ zs.length = j ∧ FOd 1 K H6 5 zs, ⟨24, by omega, Kp.of (Same.new nL), R4.same (Same.new nL), [], upd_same, rfl, FOd.nil⟩, fun j m' H6 hW => ?_⟩
    obtain ⟨em', k6, R6, zs, hL6, zl, hZ⟩ := hW
    by_cases hjt : j < 24
    · refine .inr ⟨(show j < ((24 : Int)).toNat by omega), fun H7 => Kp r H4 H7 ∧ Rg H7 r ∧ ∃ zs, H7 L = some (.lst zs) ∧ zs.length = j + 1 ∧ FOd 1 K H7 5 zs, fun H7 hN => ⟨m' - 1, by omega, by omega, hN⟩, fun v H7 hy => ?_⟩
      obtain ⟨rfl, rfl⟩ := hy
      refine ⟨rfl, tYes_if ?_⟩
      refine ⟨.ref r, rfl, r, 3, rfl, R6, by decide, by decide, fun z H8 z0 z1 k8 R8 => ⟨1, z, rfl, rfl, sz (by show 2 ≤ 100000; decide), fun p np => ?_⟩⟩
      have b4 : (1 + z).natAbs < 2 ^ 5 := Nat.lt_of_lt_of_le (show (1 + z).natAbs < 4 by omega) (by decide)
      have fp : FrB K (upd H8 p (.tup [.int (1 + z), .int 1])) (.ref p) (1 + z) 1 5 := ⟨Fr.new, by decide, by rw [Int.gcd_one], b4, by decide⟩
      have fd := FD.small fp (Int.dvd_refl 1)
      have sp := Same.new (o := .tup [.int (1 + z), .int 1]) np
      have kp := k8.trans (Kp.of sp)
      have R9 := R8.same sp
      have hL9 := kp.1 _ _ Lr hL6
      exact ⟨zs, hL9, szl (by omega), (k6.trans kp).put (H := H4) nL Lr, R4.put nL (k6.trans kp) R9, zs ++ [.ref p], upd_same, by rw [List.length_append, zl]; rfl, ((hZ.kp R6 kp).put hL9).snoc (fd.put hL9)⟩
    have ej : j = 24 := by omega
    subst ej
    refine .inl ⟨(show ((24 : Int)).toNat ≤ 24 by decide), ?_⟩
    have hD6 := k6.1 _ _ Dr hD
    have hX6 : ∀ x ∈ xs, VecD 1 K H6 5 24 [r, D] x := fun x hx => (hX x hx).kp R4 k6 List.mem_cons_self
    clear hX hD R4 nL
    dsimp only
    refine ⟨.ref D, rfl, .ref r, rfl, r, 24, rfl, R6, by decide, by decide, fun z2 H8 z20 z21 k8 R8 => ?_⟩
    have hD8 := k8.1 _ _ Dr hD6
    have hL8 := k8.1 _ _ Lr hL6
    refine ⟨D, xs, z2, z2.toNat, rfl, rfl, hD8, ixN_nat (by omega) (by omega), ?_⟩
    have hX9 : ∀ x ∈ xs.set z2.toNat (.ref L), VecD 1 K (upd H8 D (.lst (xs.set z2.toNat (.ref L)))) 5 24 [r, D] x := fun x hx => by
      rcases List.mem_or_eq_of_mem_set hx with h | h
      · exact ((hX6 x h).kp R6 k8 List.mem_cons_self).put hD8 (List.mem_cons_of_mem _ List.mem_cons_self)
      · rw [h]
        refine VecD.put ⟨L, zs, rfl, ?_, hL8, zl, hZ.kp R6 k8⟩ hD8 (List.mem_cons_of_mem _ List.mem_cons_self)
        intro hm
        rcases List.mem_cons.mp hm with e | e
        · exact Lr e
        · exact LD (List.mem_singleton.mp e)
    have R9 : Rg (upd H8 D (.lst (xs.set z2.toNat (.ref L)))) r := R1.put nD ((Kp.of s4).trans (k6.trans k8)) R8
    have hD9 : upd H8 D (.lst (xs.set z2.toNat (.ref L))) D = _ := upd_same
    have xl9 : (xs.set z2.toNat (.ref L)).length = 24 := by rw [List.length_set]; exact xl
    generalize xs.set z2.toNat (.ref L) = xs9 at *
    generalize upd H8 D (.lst xs9) = H9 at *
    clear hX6 hD6 hD8 hL8 hL6 hZ k8 R8 R6 z20 z21 k6 s4 R1 nD
    -- the targets
    refine ⟨.ref D, rfl, D, rfl, ⟨_, SqL.of hD9⟩, fun TL nTL => ?_⟩
    have TLr : TL ≠ r := R9.ne nTL
    have DTL : D ≠ TL := ne_of_none hD9 nTL
    refine lc_list (K := K) (a := D) (xs := xs9) (fun c HA => Kp r H9 HA ∧ Rg HA r ∧ ∃ ys, HA TL = some (.lst ys) ∧ ys.length = c ∧ FOd 12 K HA 5 ys) ⟨Kp.of (Same.new nTL), R9.same (Same.new nTL), [], upd_same, rfl, FOd.nil⟩ (fun c HA _ h => SqL.of (h.1.1 _ _ Dr hD9)) ?_ ?_
    · rintro c x HA hx ⟨kA, RA, ys, hT, yl, hY⟩
      have cl := (List.getElem?_eq_some_iff.mp hx).1
      refine ⟨rfl, tYes_if ?_⟩
      refine ⟨.ref r, rfl, r, rfl, RA, fun fv HB n5 d5 kB RB f5 d5d => ?_⟩
      have hT8 := kB.1 _ _ TLr hT
      exact ⟨ys, hT8, szl (by omega), (kA.trans kB).put (H := H9) nTL TLr, R9.put nTL (kA.trans kB) RB, ys ++ [fv], upd_same, by rw [List.length_append, yl]; rfl, ((hY.kp RA kB).put hT8).snoc (((FD.small f5 d5d).up (by decide)).put hT8)⟩
    rintro HA ⟨kA, RA, ys, hT, yl, hY⟩
    have hDA := kA.1 _ _ Dr hD9
    have hXA : ∀ x ∈ xs9, VecD 12 K HA 5 24 [r, D] x := fun x hx => ((hX9 x hx).kp R9 kA List.mem_cons_self).dv (by decide)
    obtain ⟨ls, rv, rq, rfl, ll, ql, nb, hl, wl, fr, dq⟩ := vec_pick hXA
    obtain ⟨ts, ft, dt⟩ := fod_pick hY
    rw [List.length_map] at yl xl9
    have S : SN 24 5 12 K HA r D TL ls rv ys rq ts 24 := ⟨RA, Dr, TLr, hDA, hT, fun l hm z => nb l hm (by rw [z]; exact List.mem_cons_self), hl, ll, by omega, ql, by omega, by omega, by omega, by omega, wl, fr, dq, ft, dt⟩
    clear hXA hX9 hY ft dt fr dq hT hDA hl nb wl kA R9 hD9 RA nTL
    have rl24 : rv.length = 24 := by omega
    refine ⟨.ref D, rfl, .ref TL, rfl, .ref D, rfl, .ref TL, rfl, ?_⟩
    show sp_p_solve_linear K _ _ _ _
    refine ⟨false, false, false, D, TL, rv, ys, rq, ts, 24, 5, 4, 5, 350, 12, rfl, S.eqs (G := 4) (by decide) (by decide) (by decide) (by decide) (by decide) (by decide), .inl rfl, by decide, by omega, by decide, by omega, by decide, fun t4 v kind xs qs E HB sB nt4 ht4 nv hv tv hF E0 dE EB hk hsq => ?_⟩
    have x6 : xs.length ≤ 24 := by
      have e0 : xs.length = qs.length := hF.len
      rcases hk with ⟨_, h⟩ | ⟨_, h⟩
      · unfold solOk at h
        rw [Bool.and_eq_true, decide_eq_true_iff] at h
        have := h.1
        omega
      · unfold certOk at h
        rw [Bool.and_eq_true, decide_eq_true_iff] at h
        have := h.1
        omega
    have EA : ∀ {E : Int}, E ≠ 0 → E.natAbs ≤ 2 ^ 350 → (0 : Int) < (E.natAbs : Int) ∧ (12 * (E.natAbs : Int)).natAbs < 2 ^ 356 := fun {E} h1 h2 => ⟨by omega, by
      rw [Int.natAbs_mul, show (356 : Nat) = 6 + 350 from rfl, Nat.pow_add, Int.natAbs_natCast]
      exact Nat.lt_of_lt_of_le (Nat.mul_lt_mul_of_lt_of_le (show (12 : Int).natAbs < 2 ^ 6 by decide) h2 (Nat.pow_pos (by decide))) (Nat.le_refl _)⟩
    have okk : ∀ {kind : Str} {qs : List Rat} {rq : List (List Rat)} {ts : List Rat} {w : Nat}, (kind = "solution" ∧ solOk rq ts qs w = true ∨ kind = "certificate" ∧ certOk rq ts qs w = true) → (decide (kind = "solution") && solOk rq ts qs w || decide (kind = "certificate") && certOk rq ts qs w) = true := fun {kind qs rq ts w} h => by
      rcases h with ⟨h1, h2⟩ | ⟨h1, h2⟩
      · rw [decide_eq_true h1, h2]
        rfl
      · rw [decide_eq_true h1, h2]
        simp
    have S2 := S.same sB
    have rv0 : rv ≠ [] := fun z => by rw [z] at rl24; exact absurd rl24 (by decide)
    show sp_l_check_solution K _ _ _ _
    refine ⟨D, TL, t4, v, kind, ls, rv, ys, rq, ts, 24, 5, 4, 356, 12, xs, qs, 351, (E.natAbs : Int), rfl, ht4, S2.hr, S2.ll, fun k l zs a b => SqL.of (S2.hl k l zs a b), S2.eqs (G := 4) (by decide) (by decide) (by decide) (by decide) (by decide) (by decide), rv0, by omega, by decide, SqL.of hv, hF, (EA E0 EB).1, fun q hq => Int.dvd_natAbs.mpr (dE q hq), (EA E0 EB).2, by decide, by omega, fun HC sC => ?_⟩
    rw [okk hk]
    refine ⟨true, rfl, iteF ?_⟩
    have S3 := S2.same sC
    clear S S2 hk hsq dE EB hF hv ht4 sB sC E0 nv nt4 tv
    obtain ⟨l0, e0⟩ : ∃ l0, ls[0]? = some l0 := ⟨_, List.getElem?_eq_getElem (by omega)⟩
    obtain ⟨x0, ex⟩ : ∃ x0, rv[0]? = some x0 := ⟨_, List.getElem?_eq_getElem (by omega)⟩
    obtain ⟨q0, eq⟩ : ∃ q0, rq[0]? = some q0 := ⟨_, List.getElem?_eq_getElem (by omega)⟩
    have tl0 : ts.length = 24 := by rw [← S3.ft.len]; omega
    obtain ⟨y0, ey⟩ : ∃ y0, ys[0]? = some y0 := ⟨_, List.getElem?_eq_getElem (by omega)⟩
    obtain ⟨t0, et⟩ : ∃ t0, ts[0]? = some t0 := ⟨_, List.getElem?_eq_getElem (by omega)⟩
    refine ⟨.ref D, rfl, 23, rfl, D, _, rfl, SqL.of S3.hr, fun c1 n1 => ?_⟩
    rw [show cutV (ls.map V.ref) none (some 23) = (ls.map V.ref).take 23 from cut_to _ 23]
    have s1 := Same.new (o := .lst ((ls.map V.ref).take 23)) n1
    have e0' : (ls.map V.ref)[0]? = some (.ref l0) := by rw [List.getElem?_map, e0]; rfl
    refine ⟨.ref D, rfl, D, _, 0, .ref l0, rfl, rfl, SqL.of (s1 _ _ S3.hr), atI_nat (j := 0) e0', sz (by show 1 ≤ 100000; decide), fun c2 n2 => ?_⟩
    have s2 := Same.new (o := .lst [.ref l0]) n2
    refine ⟨c1, c2, _, _, rfl, rfl, s2 _ _ upd_same, upd_same, sz (by rw [List.length_take]; show min 23 _ + 1 ≤ 100000; omega), fun c3 n3 => ?_⟩
    have s3 := Same.new (o := .lst ((ls.map V.ref).take 23 ++ [.ref l0])) n3
    have S4 := S3.same (s1.trans (s2.trans s3))
    have c3r := (S3.R.same (s1.trans s2)).ne n3
    have hc3 := (show upd (upd (upd HC c1 (.lst ((ls.map V.ref).take 23))) c2 (.lst [.ref l0])) c3 (.lst ((ls.map V.ref).take 23 ++ [.ref l0])) c3 = _ from upd_same)
    generalize upd (upd (upd HC c1 (.lst ((ls.map V.ref).take 23))) c2 (.lst [.ref l0])) c3 (.lst ((ls.map V.ref).take 23 ++ [.ref l0])) = HD at *
    clear s1 s2 s3 n1 n2 n3 S3
    refine ⟨.ref TL, rfl, 23, rfl, TL, _, rfl, SqL.of S4.ht, fun c4 n4 => ?_⟩
    rw [show cutV ys none (some 23) = ys.take 23 from cut_to _ 23]
    have s4 := Same.new (o := .lst (ys.take 23)) n4
    refine ⟨.ref TL, rfl, TL, _, 0, y0, rfl, rfl, SqL.of (s4 _ _ S4.ht), atI_nat (j := 0) ey, sz (by show 2 ≤ 100000; decide), fun p1 np1 => ?_⟩
    have sp1 := Same.new (o := .tup [.int 1, .int 1]) np1
    have f0 := (S4.ft.at ey et).same (s4.trans sp1)
    have f1 : FR K (upd (upd HD c4 (.lst (ys.take 23))) p1 (.tup [.int 1, .int 1])) (.ref p1) ((1 : Int) : Rat) 2 := (one_fr (n := 1) (by decide) (SqT.of upd_same)).at (i := 0) rfl rfl
    refine ⟨y0, .ref p1, t0, ((1 : Int) : Rat), rfl, f0.up (by decide), f1.up (by decide), fun p2 np2 => ?_⟩
    have fs := FR.new (K := K) (H := upd (upd HD c4 (.lst (ys.take 23))) p1 (.tup [.int 1, .int 1])) (p := p2) (f0.bt.add f1.bt)
    have sp2 := Same.new (o := .tup [.int (ofR (t0 + ((1 : Int) : Rat))).1, .int (ofR (t0 + ((1 : Int) : Rat))).2]) np2
    refine ⟨sz (by show 1 ≤ 100000; decide), fun c5 n5 => ?_⟩
    have s5 := Same.new (o := .lst [.ref p2]) n5
    refine ⟨c4, c5, _, _, rfl, rfl, s5 _ _ (sp2 _ _ (sp1 _ _ upd_same)), upd_same, sz (by rw [List.length_take]; show min 23 _ + 1 ≤ 100000; omega), fun c6 n6 => ?_⟩
    have s6 := Same.new (o := .lst (ys.take 23 ++ [.ref p2])) n6
    have sAll := s4.trans (sp1.trans (sp2.trans (s5.trans s6)))
    have c6r := (S4.R.same (s4.trans (sp1.trans (sp2.trans s5)))).ne n6
    have fs' := fs.same (s5.trans s6)
    have hc6 := (show upd (upd (upd (upd (upd HD c4 (.lst (ys.take 23))) p1 (.tup [.int 1, .int 1])) p2 (.tup [.int (ofR (t0 + ((1 : Int) : Rat))).1, .int (ofR (t0 + ((1 : Int) : Rat))).2])) c5 (.lst [.ref p2])) c6 (.lst (ys.take 23 ++ [.ref p2])) c6 = _ from upd_same)
    generalize upd (upd (upd (upd (upd HD c4 (.lst (ys.take 23))) p1 (.tup [.int 1, .int 1])) p2 (.tup [.int (ofR (t0 + ((1 : Int) : Rat))).1, .int (ofR (t0 + ((1 : Int) : Rat))).2])) c5 (.lst [.ref p2])) c6 (.lst (ys.take 23 ++ [.ref p2])) = HE at *
    have S5 := S4.twice (l0 := l0) (x0 := x0) (q0 := q0) (y := y0) (v := .ref p2) (t := t0) (s := t0 + ((1 : Int) : Rat)) (B2 := 8) rfl rl24 (by decide) sAll (S4.R.same sAll) c3r c6r e0 ex eq (by rw [List.map_append, List.map_take]; exact sAll _ _ hc3) hc6 fs' (DvQ.add (S4.dt _ (List.mem_of_getElem? et)) (by show ((((1 : Int) : Rat).den : Nat) : Int) ∣ 12; exact Int.one_dvd _))
    have rl5 : (rv.take 23 ++ [x0]).length = 24 := by rw [List.length_append, List.length_take, rl24]; rfl
    have no : ∀ qs, ¬ solOk (rq.take 23 ++ [q0]) (ts.take 23 ++ [t0 + ((1 : Int) : Rat)]) qs 24 = true := fun qs h => twice_no (by omega) tl0 eq et (by rw [← (S4.fr 0 x0 q0 ex eq).len]; exact S4.wl _ (List.mem_of_getElem? ex)) h
    clear s4 sp1 sp2 s5 s6 sAll n4 np1 np2 n5 n6 f0 f1 fs fs' hc6 hc3 S4
    generalize rv.take 23 ++ [x0] = rv2 at *
    generalize rq.take 23 ++ [q0] = rq2 at *
    generalize ts.take 23 ++ [t0 + ((1 : Int) : Rat)] = ts2 at *
    generalize ys.take 23 ++ [V.ref p2] = ys2 at *
    generalize ls.take 23 ++ [l0] = ls2 at *
    have rq2l := S5.ql
    have rv20 : rv2 ≠ [] := fun z => by rw [z] at rl5; exact absurd rl5 (by decide)
    refine ⟨.ref c3, rfl, .ref c6, rfl, ?_⟩
    show sp_p_solve_linear K _ _ _ _
    refine ⟨false, false, false, c3, c6, rv2, ys2, rq2, ts2, 24, 8, 4, 5, 450, 12, rfl, S5.eqs (G := 4) (by decide) (by decide) (by decide) (by decide) (by decide) (by decide), .inl rfl, by decide, by omega, by decide, by omega, by decide, fun t5 v5 kind5 xs5 qs5 E5 HF sF nt5 ht5 nv5 hv5 tv5 hF5 E50 dE5 EB5 hk5 hsq5 => ?_⟩
    have hk6 : kind5 = "certificate" ∧ certOk rq2 ts2 qs5 24 = true := hk5.resolve_left fun h => no _ h.2
    obtain ⟨rfl, hk7⟩ := hk6
    have x65 : xs5.length ≤ 24 := by
      have e0 : xs5.length = qs5.length := hF5.len
      unfold certOk at hk7
      rw [Bool.and_eq_true, decide_eq_true_iff] at hk7
      have := hk7.1
      omega
    have S6 := S5.same sF
    refine ⟨.ref t5, rfl, t5, _, 0, _, rfl, rfl, ht5, atI_nat (j := 0) rfl, rfl, _, rfl, ifF (by decide) ?_⟩
    have EA2 : (0 : Int) < (E5.natAbs : Int) ∧ (12 * (E5.natAbs : Int)).natAbs < 2 ^ 456 := ⟨by omega, by
      rw [Int.natAbs_mul, show (456 : Nat) = 6 + 450 from rfl, Nat.pow_add, Int.natAbs_natCast]
      exact Nat.lt_of_lt_of_le (Nat.mul_lt_mul_of_lt_of_le (show (12 : Int).natAbs < 2 ^ 6 by decide) EB5 (Nat.pow_pos (by decide))) (Nat.le_refl _)⟩
    refine ⟨.ref c3, rfl, .ref c6, rfl, .ref t5, rfl, ?_⟩
    show sp_l_check_solution K _ _ _ _
    refine ⟨c3, c6, t5, v5, "certificate", ls2, rv2, ys2, rq2, ts2, 24, 8, 4, 456, 12, xs5, qs5, 451, (E5.natAbs : Int), rfl, ht5, S6.hr, S6.ll, fun k l zs a b => SqL.of (S6.hl k l zs a b), S6.eqs (G := 4) (by decide) (by decide) (by decide) (by decide) (by decide) (by decide), rv20, by omega, by decide, SqL.of hv5, hF5, EA2.1, fun q hq => Int.dvd_natAbs.mpr (dE5 q hq), EA2.2, by decide, by omega, fun HG sG => ?_⟩
    rw [okk (.inr ⟨rfl, hk7⟩)]
    refine ⟨true, rfl, iteF ?_⟩
    clear S5 S6 hF5 hv5 ht5 sF nv5 nt5 tv5 dE5 EB5 E50 hsq5 hk5 hk7 no EA2 sG
    -- without unknowns
    refine ⟨sz (by show 0 ≤ 100000; decide), fun a1 n1 => ⟨sz (by show 0 ≤ 100000; decide), fun a2 n2 => ?_⟩⟩
    show sp_p_solve_linear K _ _ _ _
    refine sv0 false (ls := []) (ys := []) (ts := []) (Same.new n2 _ _ upd_same) (fun l h => by cases h) upd_same rfl (by decide) FRs.nil (fun q h => by cases h) (fun _ q h => by cases h) (fun z => by cases z) (fun t1 v1 xs1 H1 s1 ht1 hv1 e1 => ?_)
    have e1 := e1 rfl
    subst e1
    clear s1 n1 n2
    have fr0 : ∀ {Hx : Hp} {p : Addr} {n : Int}, n.natAbs < 4 → Hx p = some (.tup [.int n, .int 1]) → FRs K Hx [.ref p] [(n : Rat)] 2 := fun h hp => one_fr h (SqT.of hp)
    refine ⟨sz (by show 0 ≤ 100000; decide), fun a3 n3 => ⟨sz (by show 1 ≤ 100000; decide), fun a4 n4 => ⟨sz (by show 2 ≤ 100000; decide), fun a5 n5 => ⟨sz (by show 1 ≤ 100000; decide), fun a6 n6 => ?_⟩⟩⟩⟩
    have s3 := Same.new (o := .lst []) n3
    have s4 := Same.new (o := .lst [.ref a3]) n4
    have s5 := Same.new (o := .tup [.int 0, .int 1]) n5
    have s6 := Same.new (o := .lst [.ref a5]) n6
    show sp_p_solve_linear K _ _ _ _
    refine sv0 false (ls := [a3]) (ys := [.ref a5]) (ts := [((0 : Int) : Rat)]) (s6 _ _ (s5 _ _ upd_same)) (fun l h => by rw [List.mem_singleton.mp h]; exact s6 _ _ (s5 _ _ (s4 _ _ upd_same))) upd_same rfl (by show 1 ≤ 1; decide) (fr0 (by decide) (s6 _ _ upd_same)) one_dv (fun _ q h => by rw [List.mem_singleton.mp h]; rfl) (fun z => by cases z) (fun t2 v2 xs2 H2 s2 ht2 hv2 e2 => ?_)
    have e2 := e2 rfl
    subst e2
    have ht1 := Same.T (s3.trans (s4.trans (s5.trans (s6.trans s2)))) ht1
    have hv1 := (s3.trans (s4.trans (s5.trans (s6.trans s2)))) _ _ hv1
    clear s2 s3 s4 s5 s6 n3 n4 n5 n6
    refine ⟨sz (by show 0 ≤ 100000; decide), fun a3 n3 => ⟨sz (by show 1 ≤ 100000; decide), fun a4 n4 => ⟨sz (by show 2 ≤ 100000; decide), fun a5 n5 => ⟨sz (by show 1 ≤ 100000; decide), fun a6 n6 => ?_⟩⟩⟩⟩
    have s3 := Same.new (o := .lst []) n3
    have s4 := Same.new (o := .lst [.ref a3]) n4
    have s5 := Same.new (o := .tup [.int 2, .int 1]) n5
    have s6 := Same.new (o := .lst [.ref a5]) n6
    show sp_p_solve_linear K _ _ _ _
    refine sv0 true (ls := [a3]) (ys := [.ref a5]) (ts := [((2 : Int) : Rat)]) (s6 _ _ (s5 _ _ upd_same)) (fun l h => by rw [List.mem_singleton.mp h]; exact s6 _ _ (s5 _ _ (s4 _ _ upd_same))) upd_same rfl (by show 1 ≤ 1; decide) (fr0 (by decide) (s6 _ _ upd_same)) one_dv (fun z => by cases z) (fun _ => ⟨_, rfl, by decide +kernel⟩) (fun t3 v3 xs3 H3 s2 ht3 hv3 _ => ?_)
    have ht1 := Same.T (s3.trans (s4.trans (s5.trans (s6.trans s2)))) ht1
    have hv1 := (s3.trans (s4.trans (s5.trans (s6.trans s2)))) _ _ hv1
    have ht2 := Same.T (s3.trans (s4.trans (s5.trans (s6.trans s2)))) ht2
    have hv2 := (s3.trans (s4.trans (s5.trans (s6.trans s2)))) _ _ hv2
    clear s2 s3 s4 s5 s6 n3 n4 n5 n6
    refine ⟨t3, _, 0, _, rfl, rfl, ht3, atI_nat (j := 0) rfl, sz (by show 3 ≤ 100000; decide), fun F nF => ?_⟩
    have sF := Same.new (o := .lst [.ref t1, .ref t2, .str "certificate"]) nF
    refine ⟨.ref F, rfl, ?_⟩
    refine ⟨sz (by show 0 ≤ 100000; decide), fun b1 m1 => ⟨sz (by show 2 ≤ 100000; decide), fun b2 m2 => ⟨sz (by show 0 ≤ 100000; decide), fun b3 m3 => ⟨sz (by show 2 ≤ 100000; decide), fun b4 m4 => ⟨sz (by show 3 ≤ 100000; decide), fun b5 m5 => ?_⟩⟩⟩⟩⟩
    have u1 := Same.new (o := .lst []) m1
    have u2 := Same.new (o := .tup [.str "solution", .ref b1]) m2
    have u3 := Same.new (o := .lst []) m3
    have u4 := Same.new (o := .tup [.str "solution", .ref b3]) m4
    have u5 := Same.new (o := .lst [.ref b2, .ref b4, .str "certificate"]) m5
    have uF := u1.trans (u2.trans (u3.trans (u4.trans u5)))
    have pair : ∀ {Hx : Hp} {t v b c : Addr}, SqT K Hx t [.str "solution", .ref v] → Hx v = some (.lst []) → SqT K Hx c [.str "solution", .ref b] → Hx b = some (.lst []) → Eqd K Hx 2 (.ref t) (.ref c) := fun {Hx t v b c} h1 h2 h3 h4 =>
      .inr ⟨t, c, _, _, rfl, rfl, .inr ⟨h1, h3⟩, rfl, by show 2 ≤ 100000; decide, all2_cons (Eqd.atom rfl) (all2_cons (.inr ⟨v, b, [], [], rfl, rfl, .inl ⟨SqL.of h2, SqL.of h4⟩, rfl, by show 0 ≤ 100000; decide, all2_nil⟩) all2_nil)⟩
    refine ⟨.ref F, .ref b5, rfl, Eqd.mono (n := 3) (.inr ⟨F, b5, _, _, rfl, rfl, .inl ⟨SqL.of (uF _ _ upd_same), SqL.of upd_same⟩, rfl, by show 3 ≤ 100000; decide, all2_cons (pair (Same.T uF (Same.T sF ht1)) (uF _ _ (sF _ _ hv1)) (SqT.of (u5 _ _ (u4 _ _ (u3 _ _ upd_same)))) (u5 _ _ (u4 _ _ (u3 _ _ (u2 _ _ upd_same))))) (all2_cons (pair (Same.T uF (Same.T sF ht2)) (uF _ _ (sF _ _ hv2)) (SqT.of (u5 _ _ upd_same)) (u5 _ _ (u4 _ _ upd_same))) (all2_cons (Eqd.atom rfl) all2_nil))⟩) (by decide), fun HZ sZ => ?_⟩
    exact w' HZ
  rintro i σ H1 hi ⟨y2, y3, y4, y5, y6, y7, rfl, R1⟩
  refine ⟨.ref r, rfl, r, rfl, R1, fun t rl tl xs ys w H2 k2 R2 ht rr tr hrl htl xy x1 x5 w1 w5 hX hY => ?_⟩
  obtain ⟨ls, rv, rq, rfl, ll, ql, nb, hl, wl, fr, dq⟩ := vec_pick hX
  obtain ⟨ts, ft, dt⟩ := fod_pick hY
  rw [List.length_map] at xy x1 x5
  have S2 : S20 K H2 r rl tl ls rv ys rq ts w := ⟨R2, rr, tr, hrl, htl, fun l hm z => nb l hm (by rw [z]; exact List.mem_cons_self), hl, ll, by omega, ql, by omega, by omega, w1, w5, wl, fun k zs qs a b => (fr k zs qs a b).mono fun _ _ z => FR.up z (by decide), fun qs hq q h => (dq qs hq q h).up (by decide), ft, dt⟩
  refine ⟨t, _, rfl, ht, rfl, _, _, rfl, _, _, rfl, rfl, ?_⟩
  clear hX hY ft dt fr dq ht hrl htl hl nb wl
  -- copies
  refine ⟨.ref rl, rfl, rl, rfl, ⟨_, SqL.of S2.hr⟩, fun D nD => ?_⟩
  refine lc_list (K := K) (a := rl) (xs := ls.map V.ref) (fun i H9 => Same H2 H9 ∧ ∃ ns : List Addr, H9 D = some (.lst (ns.map V.ref)) ∧ ns.length = i ∧ ∀ (k : Nat) n zs, ns[k]? = some n → rv[k]? = some zs → n ≠ D ∧ H9 n = some (.lst zs)) ⟨Same.new nD, [], upd_same, rfl, fun k n zs h => by cases h⟩ (fun i H9 _ h => SqL.of (h.1 _ _ S2.hr)) ?_ ?_
  · rintro i x H9 hx ⟨s9, ns, hD, nl, hns⟩
    rw [List.getElem?_map] at hx
    cases e2 : ls[i]? with
    | none => rw [e2] at hx; cases hx
    | some l =>
      rw [e2] at hx
      cases hx
      have il : i < ls.length := (List.getElem?_eq_some_iff.mp e2).1
      have ir : rv[i]? = some (rv[i]'(by have := S2.ll; omega)) := List.getElem?_eq_getElem _
      have hl := s9 _ _ (S2.hl i l _ e2 ir)
      refine ⟨rfl, tYes_if ?_⟩
      refine ⟨.ref l, rfl, l, _, rfl, .inl (SqL.of hl), fun n nn => ?_⟩
      have sn := Same.new (o := .lst (rv[i]'(by have := S2.ll; omega))) nn
      have hD2 := sn _ _ hD
      have nD' : n ≠ D := (ne_of_none hD nn).symm
      refine ⟨ns.map V.ref, hD2, szl (by rw [List.length_map, nl]; have := S2.r5; have := S2.ll; omega), fun c o e => ?_, ns ++ [n], by rw [upd_same, List.map_append]; rfl, by rw [List.length_append, nl]; rfl, fun k m zs h1 h2 => ?_⟩
      · rw [upd_ne (ne_of_none e nD)]
        exact sn _ _ (s9 _ _ e)
      · by_cases hk : k < ns.length
        · rw [List.getElem?_append_left hk] at h1
          obtain ⟨m1, m2⟩ := hns k m zs h1 h2
          exact ⟨m1, by rw [upd_ne m1]; exact sn _ _ m2⟩
        · have ek : k = ns.length := by
            have := (List.getElem?_eq_some_iff.mp h1).1
            rw [List.length_append] at this
            have : k < ns.length + 1 := this
            omega
          rw [ek, List.getElem?_append_right (Nat.le_refl _), Nat.sub_self] at h1
          cases h1
          rw [ek, nl, ir] at h2
          cases h2
          exact ⟨nD', by rw [upd_ne nD']; exact upd_same⟩
  rintro H9 ⟨s9, ns, hD, nl, hns⟩
  rw [List.length_map, S2.ll] at nl
  refine ⟨.ref tl, rfl, tl, ys, rfl, .inl (SqL.of (s9 _ _ S2.ht)), fun AT nAT => ⟨sz (by show 2 ≤ 100000; decide), fun AL nAL => ?_⟩⟩
  have sT := Same.new (o := .lst ys) nAT
  have sL := Same.new (o := .lst [.ref D, .ref AT]) nAL
  have s3 := s9.trans (sT.trans sL)
  have hAD := sL _ _ (sT _ _ hD)
  have hAT := sL _ _ (show upd H9 AT (.lst ys) AT = _ from upd_same)
  have hAL := (show upd (upd H9 AT (.lst ys)) AL (.lst [.ref D, .ref AT]) AL = _ from upd_same)
  have hAn : ∀ (k : Nat) n zs, ns[k]? = some n → rv[k]? = some zs → upd (upd H9 AT (.lst ys)) AL (.lst [.ref D, .ref AT]) n = some (.lst zs) := fun k n zs h1 h2 => sL _ _ (sT _ _ (hns k n zs h1 h2).2)
  generalize upd (upd H9 AT (.lst ys)) AL (.lst [.ref D, .ref AT]) = H3 at *
  have S3 := S2.same s3
  have hEa : EqsAt false false false K H3 D AT rv ys rq ts w 130 11 1728 :=
    { S3.eqs with
      rows := ⟨ns, SqL.of hAD, nl, fun k n zs h1 h2 => SqL.of (hAn k n zs h1 h2)⟩
      tgt := SqL.of hAT }
  clear hns sT sL nAT nAL hD nD s9
  refine ⟨.ref AL, rfl, AL, _, 0, _, rfl, rfl, SqL.of hAL, atI_nat (j := 0) rfl, .ref AL, rfl, AL, _, 1, _, rfl, rfl, SqL.of hAL, atI_nat (j := 1) rfl, ?_⟩
  show sp_p_solve_linear K _ _ _ _
  refine ⟨false, false, false, D, AT, rv, ys, rq, ts, w, 130, 11, 3, 864, 1728, rfl, hEa, .inl rfl, by have := S2.w5; omega, by have := S2.r5; omega, by have := S2.w5; omega, by have := S2.r5; omega, by decide, fun t4 v kind xs qs E H4 s4 nt4 ht4 nv hv tv hF E0 dE EB hk hsq => ?_⟩
  have vr : v ≠ r := S3.R.ne nv
  have xl0 : xs.length = qs.length := hF.len
  have x6 : xs.length ≤ 6 := by
    rcases hk with ⟨_, h⟩ | ⟨_, h⟩
    · unfold solOk at h
      rw [Bool.and_eq_true, decide_eq_true_iff] at h
      have := h.1
      omega
    · unfold certOk at h
      rw [Bool.and_eq_true, decide_eq_true_iff] at h
      have := h.1
      omega
  have kk : kind = "solution" ∨ kind = "certificate" := hk.imp (fun h => h.1) fun h => h.1
  have S4 := S3.same s4
  have refs : ∀ {Hn : Hp} {k : Nat} {zs : List V}, rv[k]? = some zs → ∀ (j : Nat) u u', zs[j]? = some u → zs[j]? = some u' → SmE.Eqg K Hn 58 u u' := fun {Hn k zs} e j u u' h1 h2 => by
    rw [h1] at h2
    cases h2
    have kq : rq[k]? = some (rq[k]'(by rw [S4.ql]; exact (List.getElem?_eq_some_iff.mp e).1)) := List.getElem?_eq_getElem _
    obtain ⟨q, _, f⟩ := (S4.fr k _ _ e kq).get h1
    obtain ⟨pp, ep, _⟩ := f.fr
    exact .inl ⟨rfl, .inr ⟨pp, ep⟩⟩
  have refy : ∀ {Hn : Hp} (j : Nat) u u', ys[j]? = some u → ys[j]? = some u' → SmE.Eqg K Hn 59 u u' := fun {Hn} j u u' h1 h2 => by
    rw [h1] at h2
    cases h2
    obtain ⟨q, _, f⟩ := S4.ft.get h1
    obtain ⟨pp, ep, _⟩ := f.fr
    exact .inl ⟨rfl, .inr ⟨pp, ep⟩⟩
  refine ⟨.ref AL, rfl, .ref rl, rfl, .ref tl, rfl, sz (by show 2 ≤ 100000; decide), fun N nN => ?_⟩
  have sN := Same.new (o := .lst [.ref rl, .ref tl]) nN
  have s4N := s4.trans sN
  refine ⟨⟨AL, N, _, _, rfl, rfl, .inl ⟨SqL.of (s4N _ _ hAL), SqL.of upd_same⟩, rfl, all2_cons (.inr ⟨D, rl, _, _, rfl, rfl, .inl ⟨SqL.of (s4N _ _ hAD), SqL.of (s4N _ _ S3.hr)⟩, by rw [List.length_map, List.length_map, nl, S3.ll], fun j u u' h1 h2 => ?_⟩) (all2_cons (.inr ⟨AT, tl, ys, ys, rfl, rfl, .inl ⟨SqL.of (s4N _ _ hAT), SqL.of (s4N _ _ S3.ht)⟩, rfl, refy⟩) all2_nil)⟩, ?_⟩
  · rw [List.getElem?_map] at h1 h2
    cases e1 : ns[j]? with
    | none => rw [e1] at h1; cases h1
    | some n =>
      cases e2 : ls[j]? with
      | none => rw [e2] at h2; cases h2
      | some l =>
        rw [e1] at h1
        rw [e2] at h2
        cases h1
        cases h2
        have er : rv[j]? = some (rv[j]'(by have := (List.getElem?_eq_some_iff.mp e1).1; omega)) := List.getElem?_eq_getElem _
        exact .inr ⟨n, l, _, _, rfl, rfl, .inl ⟨SqL.of (s4N _ _ (hAn j n _ e1 er)), SqL.of (s4N _ _ (S3.hl j l _ e2 er))⟩, rfl, refs er⟩
  refine ⟨false, rfl, iteF ?_⟩
  have ht5 := Same.T sN ht4
  have hv5 := sN _ _ hv
  refine ⟨.ref t4, rfl, _, _, _, _, true, rfl, .ty _, tyT ht5, kit_ty (by decide +kernel), true, rfl, iteF ?_⟩
  refine ⟨.ref t4, rfl, .ref t4, 2, rfl, .inr ⟨_, ht5, rfl⟩, rfl, _, rfl, ?_⟩
  refine ifF (by decide) ?_
  refine ⟨.ref t4, rfl, t4, _, 1, _, rfl, rfl, ht5, atI_nat (j := 1) rfl, _, _, _, _, true, rfl, .ty _, tyL (SqL.of hv5), kit_ty (by decide +kernel), true, rfl, iteF ?_⟩
  -- the answer is right
  refine ⟨.ref t4, rfl, t4, _, 0, _, rfl, rfl, ht5, atI_nat (j := 0) rfl, sz (by show 2 ≤ 100000; decide), fun N2 nN2 => ?_⟩
  have s2 := Same.new (o := .tup [.str "solution", .str "certificate"]) nN2
  refine ⟨.str kind, [.str "solution", .str "certificate"], DaT.At.str, .inr (DaT.At.tup (n := 59) (SqT.of upd_same) rfl (DaT.pr_cons DaT.At.str (DaT.pr_cons DaT.At.str DaT.pr_nil))), ?_⟩
  have e1 : (if true = true then !(([.str "solution", .str "certificate"] : List PyData).any fun e => PyData.eqv e (.str kind)) else ([.str "solution", .str "certificate"] : List PyData).any fun e => PyData.eqv e (.str kind)) = false := by
    rcases kk with rfl | rfl <;> decide +kernel
  rw [e1]
  refine ⟨_, rfl, iteF ?_⟩
  have s36 := s4N.trans s2
  have S6 := S3.same s36
  have ht6 := Same.T s2 ht5
  have hv6 := s2 _ _ hv5
  have hF6 := hF.mv (sN.trans s2)
  have EA : (0 : Int) < (E.natAbs : Int) := by omega
  have PPB : (1728 * (E.natAbs : Int)).natAbs < 2 ^ 876 := by
    rw [Int.natAbs_mul, show (876 : Nat) = 12 + 864 from rfl, Nat.pow_add, Int.natAbs_natCast]
    exact Nat.lt_of_lt_of_le (Nat.mul_lt_mul_of_lt_of_le (show (1728 : Int).natAbs < 2 ^ 12 by decide) EB (Nat.pow_pos (by decide))) (Nat.le_refl _)
  have rv0 : rv ≠ [] := fun z => by have := S6.r1; rw [z] at this; exact absurd this (by decide)
  refine ⟨.ref rl, rfl, .ref tl, rfl, .ref t4, rfl, ?_⟩
  show sp_l_check_solution K _ _ _ _
  refine ⟨rl, tl, t4, v, kind, ls, rv, ys, rq, ts, w, 130, 11, 876, 1728, xs, qs, 865, (E.natAbs : Int), rfl, ht6, S6.hr, S6.ll, fun k l zs a b => SqL.of (S6.hl k l zs a b), S6.eqs, rv0, by have := S6.r5; omega, by have := S6.w5; omega, SqL.of hv6, hF6, EA, fun q hq => Int.dvd_natAbs.mpr (dE q hq), PPB, by decide, by omega, fun H7 s7 => ?_⟩
  have e2 : (decide (kind = "solution") && solOk rq ts qs w || decide (kind = "certificate") && certOk rq ts qs w) = true := by
    rcases hk with ⟨h1, h2⟩ | ⟨h1, h2⟩
    · rw [decide_eq_true h1, h2]
      rfl
    · rw [decide_eq_true h1, h2]
      simp
  rw [e2]
  refine ⟨true, rfl, iteF ?_⟩
  have s37 := s36.trans s7
  have ht7 := Same.T s7 ht6
  have hv7 := s7 _ _ hv6
  have hF7 := hF6.mv s7
  clear s36 s2 s7 ht6 hv6 hF6 S6 PPB nN2
  -- in lowest terms
  refine ⟨.ref t4, rfl, t4, _, 1, _, rfl, rfl, ht7, atI_nat (j := 1) rfl, v, rfl, ⟨_, SqL.of hv7⟩, fun L nL => ?_⟩
  refine lc_list (K := K) (a := v) (xs := xs) (fun i H9 => Same H7 H9 ∧ H9 L = some (.lst ((List.replicate i true).map V.bl))) ⟨Same.new nL, upd_same⟩ (fun i H9 _ h => SqL.of (h.1 _ _ hv7)) ?_ ?_
  · rintro j x H9 hx ⟨s9, hL⟩
    obtain ⟨q, hq, fq⟩ := hF7.get hx
    have fq9 := fq.same s9
    obtain ⟨pq, rfl, hp⟩ := fq9.fr
    refine ⟨rfl, tYes_if ?_⟩
    refine ⟨.ref pq, rfl, .ref pq, rfl, pq, _, 0, _, rfl, rfl, hp, atI_nat (j := 0) rfl, .ref pq, rfl, pq, _, 1, _, rfl, rfl, hp, atI_nat (j := 1) rfl, ?_⟩
    have lw := low_ofR q
    refine ⟨(ofR q).1, (ofR q).2, rfl, by have := lw.1; omega, Nat.lt_of_lt_of_le fq9.bt.2 (Nat.pow_le_pow_right (by decide) (by decide)), fun m nm => ?_⟩
    rw [red_self lw.1 lw.2]
    have sm := Same.new (o := .tup [.int (ofR q).1, .int (ofR q).2]) nm
    refine ⟨.ref pq, .ref m, rfl, Eqd.mono (eqd_fr ⟨pq, rfl, Same.T sm hp⟩ Fr.new) (by decide), fun HA sA => ?_⟩
    have sB := sm.trans sA
    refine ⟨_, sB _ _ hL, szl (by rw [List.length_map, List.length_replicate]; have := (List.getElem?_eq_some_iff.mp hx).1; omega), fun c o e => ?_, ?_⟩
    · rw [upd_ne (ne_of_none e nL)]
      exact sB _ _ (s9 _ _ e)
    · rw [upd_same, List.replicate_succ', List.map_append]
      rfl
  rintro H8 ⟨s8, hL⟩
  refine ⟨L, List.replicate xs.length true, rfl, SqL.of hL, true, by rw [show (List.replicate xs.length true).all id = true by simp], iteF ?_⟩
  have s38 := s37.trans s8
  have ht8 := Same.T s8 ht7
  have hv8 := s8 _ _ hv7
  have hF8 := hF7.mv s8
  clear s37 s8 ht7 hv7 hF7 nL hL
  -- its text
  obtain ⟨sh1, sh2, sh3⟩ := ans_show (kind := kind) (qs := qs) kk (fun q hq => (hF8.bts q hq).up (by decide)) (by omega)
  refine ⟨.ref t4, rfl, t4, ansD kind qs, rfl, ans_at ht8 (SqL.of hv8) hF8, sh1, sh2, sh3, ?_⟩
  refine ⟨.ref t4, rfl, t4, _, 1, _, rfl, rfl, ht8, atI_nat (j := 1) rfl, .inl ⟨rfl, _, SqL.of hv8⟩, v, xs, .int 0, rfl, rfl, hv8, szl (by omega), ?_⟩
  have s39 : Same H3 (upd H8 v (.lst (xs ++ [.int 0]))) := Same.wr s38 nv
  obtain ⟨H9, hH9⟩ : ∃ H9, H9 = upd H8 v (.lst (xs ++ [.int 0])) := ⟨_, rfl⟩
  rw [← hH9] at s39 ⊢
  have S9 := S3.same s39
  clear hH9 s38 hF8 hv8 ht8 S4 hv5 ht5 s4N sN refs refy
  -- once more, by keyword
  refine ⟨.ref tl, rfl, tl, ys, rfl, .inl ⟨SqL.of S9.ht, fun TY nTY => ?_⟩⟩
  have sY := Same.new (o := .tup ys) nTY
  have SY := S9.same sY
  have hTY := (show upd H9 TY (.tup ys) TY = _ from upd_same)
  generalize upd H9 TY (.tup ys) = HY at *
  refine ⟨.ref rl, rfl, rl, rfl, ⟨_, SqL.of SY.hr⟩, fun D2 nD2 => ?_⟩
  refine lc_list (K := K) (a := rl) (xs := ls.map V.ref) (fun i H9 => Same HY H9 ∧ ∃ ns : List Addr, H9 D2 = some (.lst (ns.map V.ref)) ∧ ns.length = i ∧ ∀ (k : Nat) n zs, ns[k]? = some n → rv[k]? = some zs → n ≠ D2 ∧ H9 n = some (.tup zs)) ⟨Same.new nD2, [], upd_same, rfl, fun k n zs h => by cases h⟩ (fun i H9 _ h => SqL.of (h.1 _ _ SY.hr)) ?_ ?_
  · rintro i x HZ hx ⟨s9, ns, hD, nl, hns⟩
    rw [List.getElem?_map] at hx
    cases e2 : ls[i]? with
    | none => rw [e2] at hx; cases hx
    | some l =>
      rw [e2] at hx
      cases hx
      have il : i < ls.length := (List.getElem?_eq_some_iff.mp e2).1
      have ir : rv[i]? = some (rv[i]'(by have := SY.ll; omega)) := List.getElem?_eq_getElem _
      have hl := s9 _ _ (SY.hl i l _ e2 ir)
      refine ⟨rfl, tYes_if ?_⟩
      refine ⟨.ref l, rfl, l, _, rfl, .inl ⟨SqL.of hl, fun n nn => ?_⟩⟩
      have sn := Same.new (o := .tup (rv[i]'(by have := SY.ll; omega))) nn
      have hD2 := sn _ _ hD
      have nD' : n ≠ D2 := (ne_of_none hD nn).symm
      refine ⟨ns.map V.ref, hD2, szl (by rw [List.length_map, nl]; have := SY.r5; have := SY.ll; omega), fun c o e => ?_, ns ++ [n], by rw [upd_same, List.map_append]; rfl, by rw [List.length_append, nl]; rfl, fun k m zs h1 h2 => ?_⟩
      · rw [upd_ne (ne_of_none e nD2)]
        exact sn _ _ (s9 _ _ e)
      · by_cases hk : k < ns.length
        · rw [List.getElem?_append_left hk] at h1
          obtain ⟨m1, m2⟩ := hns k m zs h1 h2
          exact ⟨m1, by rw [upd_ne m1]; exact sn _ _ m2⟩
        · have ek : k = ns.length := by
            have := (List.getElem?_eq_some_iff.mp h1).1
            rw [List.length_append] at this
            have : k < ns.length + 1 := this
            omega
          rw [ek, List.getElem?_append_right (Nat.le_refl _), Nat.sub_self] at h1
          cases h1
          rw [ek, nl, ir] at h2
          cases h2
          exact ⟨nD', by rw [upd_ne nD']; exact upd_same⟩
  rintro HZ ⟨sZ, ms, hD2, ml, hms⟩
  rw [List.length_map, SY.ll] at ml
  have SZ := SY.same sZ
  have hEt : EqsAt true false true K HZ D2 TY rv ys rq ts w 130 11 1728 :=
    { SZ.eqs with
      rows := ⟨ms, SqL.of hD2, ml, fun k n zs h1 h2 => SqT.of (hms k n zs h1 h2).2⟩
      tgt := SqT.of (sZ _ _ hTY) }
  refine ⟨rfl, ?_⟩
  show sp_p_solve_linear K _ _ _ _
  refine ⟨true, false, true, D2, TY, rv, ys, rq, ts, w, 130, 11, 3, 864, 1728, rfl, hEt, .inr ⟨rfl, rfl⟩, by have := SZ.w5; omega, by have := SZ.r5; omega, by have := SZ.w5; omega, by have := SZ.r5; omega, by decide, fun t5 v5 kind5 xs5 qs5 E5 HW sW nt5 ht5 nv5 hv5 tv5 hF5 E50 dE5 EB5 hk5 hsq5 => ?_⟩
  have e5 : (kind5, qs5) = (kind, qs) := hsq5.trans hsq.symm
  injection e5 with e51 e52
  subst e51
  subst e52
  refine ⟨t5, ansD kind5 qs5, rfl, ans_at ht5 (SqL.of hv5) hF5, sh1, sh2, sh3, .str _, rfl, rfl, _, rfl, ?_⟩
  refine ifF (by simp) ?_
  exact ⟨_, _, _, _, _, _, rfl, (SZ.same sW).R⟩
end
theorem all_mk {l : PySem.W.OpenLaw} {w : World} {K : PySem.W.Frag} {h : Heap} {mg : Str → Option Value} {fa : Addr} (X : K.In h) (G : h.Ns mainGlobals mg) (hfa : mg "law" = some (.ref fa))
    {od0 an0 : Option Addr} {sl0 : Array (Option Value)} {oc0 kV0 dc0 pm0 cd0 ct0 : Value} {f0 : Addr}
    {od1 an1 : Option Addr} {sl1 : Array (Option Value)} {oc1 kV1 dc1 pm1 cd1 ct1 : Value} {f1 : Addr}
    {od2 an2 : Option Addr} {sl2 : Array (Option Value)} {oc2 kV2 dc2 pm2 cd2 ct2 : Value} {f2 : Addr}
    {od3 an3 : Option Addr} {sl3 : Array (Option Value)} {oc3 kV3 dc3 pm3 cd3 ct3 : Value} {f3 : Addr}
    {od4 an4 : Option Addr} {sl4 : Array (Option Value)} {oc4 kV4 dc4 pm4 cd4 ct4 : Value} {f4 : Addr}
    {od5 an5 : Option Addr} {sl5 : Array (Option Value)} {oc5 kV5 dc5 pm5 cd5 ct5 : Value} {f5 : Addr}
    {od6 an6 : Option Addr} {sl6 : Array (Option Value)} {oc6 kV6 dc6 pm6 cd6 ct6 : Value} {f6 : Addr}
    {od7 an7 : Option Addr} {sl7 : Array (Option Value)} {oc7 kV7 dc7 pm7 cd7 ct7 : Value} {f7 : Addr}
    {od8 an8 : Option Addr} {sl8 : Array (Option Value)} {oc8 kV8 dc8 pm8 cd8 ct8 : Value} {f8 : Addr}
    {od9 an9 : Option Addr} {sl9 : Array (Option Value)} {oc9 kV9 dc9 pm9 cd9 ct9 : Value} {f9 : Addr}
    {od10 an10 : Option Addr} {sl10 : Array (Option Value)} {oc10 kV10 dc10 pm10 cd10 ct10 : Value} {f10 : Addr}
    {od11 an11 : Option Addr} {sl11 : Array (Option Value)} {oc11 kV11 dc11 pm11 cd11 ct11 : Value} {f11 : Addr}
    {od12 an12 : Option Addr} {sl12 : Array (Option Value)} {oc12 kV12 dc12 pm12 cd12 ct12 : Value} {f12 : Addr}
    {od13 an13 : Option Addr} {sl13 : Array (Option Value)} {oc13 kV13 dc13 pm13 cd13 ct13 : Value} {f13 : Addr}
    {od14 an14 : Option Addr} {sl14 : Array (Option Value)} {oc14 kV14 dc14 pm14 cd14 ct14 : Value} {f14 : Addr}
    {od15 an15 : Option Addr} {sl15 : Array (Option Value)} {oc15 kV15 dc15 pm15 cd15 ct15 : Value} {f15 : Addr}
    {od16 an16 : Option Addr} {sl16 : Array (Option Value)} {oc16 kV16 dc16 pm16 cd16 ct16 : Value} {f16 : Addr}
    {od17 an17 : Option Addr} {sl17 : Array (Option Value)} {oc17 kV17 dc17 pm17 cd17 ct17 : Value} {f17 : Addr}
    {od18 an18 : Option Addr} {sl18 : Array (Option Value)} {oc18 kV18 dc18 pm18 cd18 ct18 : Value} {f18 : Addr}
    {od19 an19 : Option Addr} {sl19 : Array (Option Value)} {oc19 kV19 dc19 pm19 cd19 ct19 : Value} {f19 : Addr}
    {od20 an20 : Option Addr} {sl20 : Array (Option Value)} {oc20 kV20 dc20 pm20 cd20 ct20 : Value} {f20 : Addr}
    {od21 an21 : Option Addr} {sl21 : Array (Option Value)} {oc21 kV21 dc21 pm21 cd21 ct21 : Value} {f21 : Addr}
    {od22 an22 : Option Addr} {sl22 : Array (Option Value)} {oc22 kV22 dc22 pm22 cd22 ct22 : Value} {f22 : Addr}
    {od23 an23 : Option Addr} {sl23 : Array (Option Value)} {oc23 kV23 dc23 pm23 cd23 ct23 : Value} {f23 : Addr}
    {dT3 : Addr} {do3 : Option Addr} {dn3 : Nat} {ds3 : Array (Option Value)} {dt3_0 : Tok}
    {o_ZERO : Addr} {od_ZERO : Option Addr} {on_ZERO : Nat} {os_ZERO : Array (Option Value)} {tk_ZERO_0 tk_ZERO_1 : Tok}
    (a0 : PySem.W.nsIn K mainGlobals "greatest_divisor" = some (some (.ref f0)))
    (l0 : K.lookup f0 = some ⟨oc0, od0, .func (PySem.W.fnOf "greatest_divisor" "greatest_divisor" (defArgs s_p_greatest_divisor) (defBody s_p_greatest_divisor) (defScope s_p_greatest_divisor) .none kV0 dc0 pm0 an0 cd0 ct0), sl0⟩) (c0 : PySem.W.codeIn K cd0 "greatest_divisor" = true) (k0 : PySem.W.keepIn K (.ref f0) = true)
    (a1 : PySem.W.nsIn K mainGlobals "least_multiple" = some (some (.ref f1)))
    (l1 : K.lookup f1 = some ⟨oc1, od1, .func (PySem.W.fnOf "least_multiple" "least_multiple" (defArgs s_p_least_multiple) (defBody s_p_least_multiple) (defScope s_p_least_multiple) .none kV1 dc1 pm1 an1 cd1 ct1), sl1⟩) (c1 : PySem.W.codeIn K cd1 "least_multiple" = true) (k1 : PySem.W.keepIn K (.ref f1) = true)
    (a2 : PySem.W.nsIn K mainGlobals "common_denominator" = some (some (.ref f2)))
    (l2 : K.lookup f2 = some ⟨oc2, od2, .func (PySem.W.fnOf "common_denominator" "common_denominator" (defArgs s_p_common_denominator) (defBody s_p_common_denominator) (defScope s_p_common_denominator) .none kV2 dc2 pm2 an2 cd2 ct2), sl2⟩) (c2 : PySem.W.codeIn K cd2 "common_denominator" = true) (k2 : PySem.W.keepIn K (.ref f2) = true)
    (a3 : PySem.W.nsIn K mainGlobals "fraction" = some (some (.ref f3)))
    (l3 : K.lookup f3 = some ⟨oc3, od3, .func (PySem.W.fnOf "fraction" "fraction" (defArgs s_p_fraction) (defBody s_p_fraction) (defScope s_p_fraction) (.ref dT3) kV3 dc3 pm3 an3 cd3 ct3), sl3⟩) (c3 : PySem.W.codeIn K cd3 "fraction" = true) (k3 : PySem.W.keepIn K (.ref f3) = true)
    (d3 : K.lookup dT3 = some ⟨.type "tuple", do3, .seq #[.int 1 dt3_0] dn3, ds3⟩)
    (a4 : PySem.W.nsIn K mainGlobals "check_shape" = some (some (.ref f4)))
    (l4 : K.lookup f4 = some ⟨oc4, od4, .func (PySem.W.fnOf "check_shape" "check_shape" (defArgs s_p_check_shape) (defBody s_p_check_shape) (defScope s_p_check_shape) .none kV4 dc4 pm4 an4 cd4 ct4), sl4⟩) (c4 : PySem.W.codeIn K cd4 "check_shape" = true) (k4 : PySem.W.keepIn K (.ref f4) = true)
    (a5 : PySem.W.nsIn K mainGlobals "columns_of" = some (some (.ref f5)))
    (l5 : K.lookup f5 = some ⟨oc5, od5, .func (PySem.W.fnOf "columns_of" "columns_of" (defArgs s_p_columns_of) (defBody s_p_columns_of) (defScope s_p_columns_of) .none kV5 dc5 pm5 an5 cd5 ct5), sl5⟩) (c5 : PySem.W.codeIn K cd5 "columns_of" = true) (k5 : PySem.W.keepIn K (.ref f5) = true)
    (a6 : PySem.W.nsIn K mainGlobals "as_integers" = some (some (.ref f6)))
    (l6 : K.lookup f6 = some ⟨oc6, od6, .func (PySem.W.fnOf "as_integers" "as_integers" (defArgs s_p_as_integers) (defBody s_p_as_integers) (defScope s_p_as_integers) .none kV6 dc6 pm6 an6 cd6 ct6), sl6⟩) (c6 : PySem.W.codeIn K cd6 "as_integers" = true) (k6 : PySem.W.keepIn K (.ref f6) = true)
    (a7 : PySem.W.nsIn K mainGlobals "clear_column" = some (some (.ref f7)))
    (l7 : K.lookup f7 = some ⟨oc7, od7, .func (PySem.W.fnOf "clear_column" "clear_column" (defArgs s_p_clear_column) (defBody s_p_clear_column) (defScope s_p_clear_column) .none kV7 dc7 pm7 an7 cd7 ct7), sl7⟩) (c7 : PySem.W.codeIn K cd7 "clear_column" = true) (k7 : PySem.W.keepIn K (.ref f7) = true)
    (a8 : PySem.W.nsIn K mainGlobals "first_nonzero" = some (some (.ref f8)))
    (l8 : K.lookup f8 = some ⟨oc8, od8, .func (PySem.W.fnOf "first_nonzero" "first_nonzero" (defArgs s_p_first_nonzero) (defBody s_p_first_nonzero) (defScope s_p_first_nonzero) .none kV8 dc8 pm8 an8 cd8 ct8), sl8⟩) (c8 : PySem.W.codeIn K cd8 "first_nonzero" = true) (k8 : PySem.W.keepIn K (.ref f8) = true)
    (a9 : PySem.W.nsIn K mainGlobals "eliminate" = some (some (.ref f9)))
    (l9 : K.lookup f9 = some ⟨oc9, od9, .func (PySem.W.fnOf "eliminate" "eliminate" (defArgs s_p_eliminate) (defBody s_p_eliminate) (defScope s_p_eliminate) .none kV9 dc9 pm9 an9 cd9 ct9), sl9⟩) (c9 : PySem.W.codeIn K cd9 "eliminate" = true) (k9 : PySem.W.keepIn K (.ref f9) = true)
    (a10 : PySem.W.nsIn K mainGlobals "solution_of" = some (some (.ref f10)))
    (l10 : K.lookup f10 = some ⟨oc10, od10, .func (PySem.W.fnOf "solution_of" "solution_of" (defArgs s_p_solution_of) (defBody s_p_solution_of) (defScope s_p_solution_of) .none kV10 dc10 pm10 an10 cd10 ct10), sl10⟩) (c10 : PySem.W.codeIn K cd10 "solution_of" = true) (k10 : PySem.W.keepIn K (.ref f10) = true)
    (a11 : PySem.W.nsIn K mainGlobals "solve_linear" = some (some (.ref f11)))
    (l11 : K.lookup f11 = some ⟨oc11, od11, .func (PySem.W.fnOf "solve_linear" "solve_linear" (defArgs s_p_solve_linear) (defBody s_p_solve_linear) (defScope s_p_solve_linear) .none kV11 dc11 pm11 an11 cd11 ct11), sl11⟩) (c11 : PySem.W.codeIn K cd11 "solve_linear" = true) (k11 : PySem.W.keepIn K (.ref f11) = true)
    (a12 : PySem.W.nsIn K mainGlobals "_law_source" = some (some (.ref f12)))
    (l12 : K.lookup f12 = some ⟨oc12, od12, .func (PySem.W.fnOf "_law_source" "_law_source" (defArgs s_l_source) (defBody s_l_source) (defScope s_l_source) .none kV12 dc12 pm12 an12 cd12 ct12), sl12⟩) (c12 : PySem.W.codeIn K cd12 "_law_source" = true) (k12 : PySem.W.keepIn K (.ref f12) = true)
    (a13 : PySem.W.nsIn K mainGlobals "_law_draw" = some (some (.ref f13)))
    (l13 : K.lookup f13 = some ⟨oc13, od13, .func (PySem.W.fnOf "_law_draw" "_law_draw" (defArgs s_l_draw) (defBody s_l_draw) (defScope s_l_draw) .none kV13 dc13 pm13 an13 cd13 ct13), sl13⟩) (c13 : PySem.W.codeIn K cd13 "_law_draw" = true) (k13 : PySem.W.keepIn K (.ref f13) = true)
    (a14 : PySem.W.nsIn K mainGlobals "_law_choice" = some (some (.ref f14)))
    (l14 : K.lookup f14 = some ⟨oc14, od14, .func (PySem.W.fnOf "_law_choice" "_law_choice" (defArgs s_l_choice) (defBody s_l_choice) (defScope s_l_choice) .none kV14 dc14 pm14 an14 cd14 ct14), sl14⟩) (c14 : PySem.W.codeIn K cd14 "_law_choice" = true) (k14 : PySem.W.keepIn K (.ref f14) = true)
    (a15 : PySem.W.nsIn K mainGlobals "_law_equal" = some (some (.ref f15)))
    (l15 : K.lookup f15 = some ⟨oc15, od15, .func (PySem.W.fnOf "_law_equal" "_law_equal" (defArgs s_l_equal) (defBody s_l_equal) (defScope s_l_equal) .none kV15 dc15 pm15 an15 cd15 ct15), sl15⟩) (c15 : PySem.W.codeIn K cd15 "_law_equal" = true) (k15 : PySem.W.keepIn K (.ref f15) = true)
    (a16 : PySem.W.nsIn K mainGlobals "_law_reduce" = some (some (.ref f16)))
    (l16 : K.lookup f16 = some ⟨oc16, od16, .func (PySem.W.fnOf "_law_reduce" "_law_reduce" (defArgs s_l_reduce) (defBody s_l_reduce) (defScope s_l_reduce) .none kV16 dc16 pm16 an16 cd16 ct16), sl16⟩) (c16 : PySem.W.codeIn K cd16 "_law_reduce" = true) (k16 : PySem.W.keepIn K (.ref f16) = true)
    (a17 : PySem.W.nsIn K mainGlobals "_law_add" = some (some (.ref f17)))
    (l17 : K.lookup f17 = some ⟨oc17, od17, .func (PySem.W.fnOf "_law_add" "_law_add" (defArgs s_l_add) (defBody s_l_add) (defScope s_l_add) .none kV17 dc17 pm17 an17 cd17 ct17), sl17⟩) (c17 : PySem.W.codeIn K cd17 "_law_add" = true) (k17 : PySem.W.keepIn K (.ref f17) = true)
    (a18 : PySem.W.nsIn K mainGlobals "_law_multiply" = some (some (.ref f18)))
    (l18 : K.lookup f18 = some ⟨oc18, od18, .func (PySem.W.fnOf "_law_multiply" "_law_multiply" (defArgs s_l_multiply) (defBody s_l_multiply) (defScope s_l_multiply) .none kV18 dc18 pm18 an18 cd18 ct18), sl18⟩) (c18 : PySem.W.codeIn K cd18 "_law_multiply" = true) (k18 : PySem.W.keepIn K (.ref f18) = true)
    (a19 : PySem.W.nsIn K mainGlobals "_law_sum" = some (some (.ref f19)))
    (l19 : K.lookup f19 = some ⟨oc19, od19, .func (PySem.W.fnOf "_law_sum" "_law_sum" (defArgs s_l_sum) (defBody s_l_sum) (defScope s_l_sum) .none kV19 dc19 pm19 an19 cd19 ct19), sl19⟩) (c19 : PySem.W.codeIn K cd19 "_law_sum" = true) (k19 : PySem.W.keepIn K (.ref f19) = true)
    (a20 : PySem.W.nsIn K mainGlobals "_law_small" = some (some (.ref f20)))
    (l20 : K.lookup f20 = some ⟨oc20, od20, .func (PySem.W.fnOf "_law_small" "_law_small" (defArgs s_l_small) (defBody s_l_small) (defScope s_l_small) .none kV20 dc20 pm20 an20 cd20 ct20), sl20⟩) (c20 : PySem.W.codeIn K cd20 "_law_small" = true) (k20 : PySem.W.keepIn K (.ref f20) = true)
    (a21 : PySem.W.nsIn K mainGlobals "_law_linear_case" = some (some (.ref f21)))
    (l21 : K.lookup f21 = some ⟨oc21, od21, .func (PySem.W.fnOf "_law_linear_case" "_law_linear_case" (defArgs s_l_linear_case) (defBody s_l_linear_case) (defScope s_l_linear_case) .none kV21 dc21 pm21 an21 cd21 ct21), sl21⟩) (c21 : PySem.W.codeIn K cd21 "_law_linear_case" = true) (k21 : PySem.W.keepIn K (.ref f21) = true)
    (a22 : PySem.W.nsIn K mainGlobals "_law_check_solution" = some (some (.ref f22)))
    (l22 : K.lookup f22 = some ⟨oc22, od22, .func (PySem.W.fnOf "_law_check_solution" "_law_check_solution" (defArgs s_l_check_solution) (defBody s_l_check_solution) (defScope s_l_check_solution) .none kV22 dc22 pm22 an22 cd22 ct22), sl22⟩) (c22 : PySem.W.codeIn K cd22 "_law_check_solution" = true) (k22 : PySem.W.keepIn K (.ref f22) = true)
    (a23 : PySem.W.nsIn K mainGlobals "law" = some (some (.ref f23)))
    (l23 : K.lookup f23 = some ⟨oc23, od23, .func (PySem.W.fnOf "law" "law" (defArgs s_p_law) (defBody s_p_law) (defScope s_p_law) .none kV23 dc23 pm23 an23 cd23 ct23), sl23⟩) (c23 : PySem.W.codeIn K cd23 "law" = true) (k23 : PySem.W.keepIn K (.ref f23) = true)
    (z0 : PySem.W.nsIn K mainGlobals "abs" = some none)
    (z1 : PySem.W.nsIn K mainGlobals "enumerate" = some none)
    (z2 : PySem.W.nsIn K mainGlobals "len" = some none)
    (z3 : PySem.W.nsIn K mainGlobals "list" = some none)
    (z4 : PySem.W.nsIn K mainGlobals "zip" = some none)
    (z5 : PySem.W.nsIn K mainGlobals "range" = some none)
    (z6 : PySem.W.nsIn K mainGlobals "any" = some none)
    (z7 : PySem.W.nsIn K mainGlobals "isinstance" = some none)
    (z8 : PySem.W.nsIn K mainGlobals "tuple" = some none)
    (z9 : PySem.W.nsIn K mainGlobals "all" = some none)
    (z10 : PySem.W.nsIn K mainGlobals "bool" = some none)
    (z11 : PySem.W.nsIn K mainGlobals "int" = some none)
    (z12 : PySem.W.nsIn K mainGlobals "str" = some none)
    (z13 : PySem.W.nsIn K mainGlobals "repr" = some none)
    (q_ZERO : PySem.W.nsIn K mainGlobals "ZERO" = some (some (.ref o_ZERO))) (m_ZERO : K.lookup o_ZERO = some ⟨.type "tuple", od_ZERO, .seq #[.int 0 tk_ZERO_0, .int 1 tk_ZERO_1] on_ZERO, os_ZERO⟩)
    : ∃ fd : FuncData, (∀ (s : Shared) (v : Value), BindsTo s fd ⟨[v], []⟩ [("_law_script", v)]) ∧ ∀ base : Heap, K.In base → base.Ns mainGlobals mg → GdL.RunG l.prog w K mg base 22 fa fd ["_law_script"] (sp_p_law K) := by
  have e := hfa.symm.trans (PySem.W.mg_of X G a23)
  cases e
  have F0 := fun_mk (st := s_p_greatest_divisor) l0 c0 k0
  have b0 := F0.binds (ps := ["one", "other"]) fun _ _ _ _ _ _ us hl => match us, hl with | [_, _], _ => rfl
  have F1 := fun_mk (st := s_p_least_multiple) l1 c1 k1
  have b1 := F1.binds (ps := ["one", "other"]) fun _ _ _ _ _ _ us hl => match us, hl with | [_, _], _ => rfl
  have F2 := fun_mk (st := s_p_common_denominator) l2 c2 k2
  have b2 := F2.binds (ps := ["row"]) fun _ _ _ _ _ _ us hl => match us, hl with | [_], _ => rfl
  have F3 : FunD K "fraction" "fraction" (defArgs s_p_fraction) (defBody s_p_fraction) (defScope s_p_fraction) [(.int 1)] [] f3 (PySem.W.fnOf "fraction" "fraction" (defArgs s_p_fraction) (defBody s_p_fraction) (defScope s_p_fraction) (.ref dT3) kV3 dc3 pm3 an3 cd3 ct3) := ⟨⟨_, _, _, _, _, _, _, _, _, _, rfl, l3, c3, .inr ⟨(fun z => by cases z), _, _, [.int 1 dt3_0], _, rfl, d3, rfl, (.cons ⟨_, rfl⟩ .nil)⟩, .inl rfl⟩, k3⟩
  have b3_2 := F3.binds1 (ps := ["num", "den"]) 2 1 (fun z => nomatch z) rfl fun _ _ _ _ _ _ _ us its h1 h2 => match us, its, h1, h2 with | [_, _], [_], _, _ => ⟨_, rfl, rfl⟩
  have F4 := fun_mk (st := s_p_check_shape) l4 c4 k4
  have b4 := F4.binds (ps := ["rows", "targets"]) fun _ _ _ _ _ _ us hl => match us, hl with | [_, _], _ => rfl
  have F5 := fun_mk (st := s_p_columns_of) l5 c5 k5
  have b5 := F5.binds (ps := ["rows"]) fun _ _ _ _ _ _ us hl => match us, hl with | [_], _ => rfl
  have F6 := fun_mk (st := s_p_as_integers) l6 c6 k6
  have b6 := F6.binds (ps := ["row"]) fun _ _ _ _ _ _ us hl => match us, hl with | [_], _ => rfl
  have F7 := fun_mk (st := s_p_clear_column) l7 c7 k7
  have b7 := F7.binds (ps := ["row", "pivot_row", "column", "last_pivot"]) fun _ _ _ _ _ _ us hl => match us, hl with | [_, _, _, _], _ => rfl
  have F8 := fun_mk (st := s_p_first_nonzero) l8 c8 k8
  have b8 := F8.binds (ps := ["row"]) fun _ _ _ _ _ _ us hl => match us, hl with | [_], _ => rfl
  have F9 := fun_mk (st := s_p_eliminate) l9 c9 k9
  have b9 := F9.binds (ps := ["rows", "width"]) fun _ _ _ _ _ _ us hl => match us, hl with | [_, _], _ => rfl
  have F10 := fun_mk (st := s_p_solution_of) l10 c10 k10
  have b10 := F10.binds (ps := ["rows", "width"]) fun _ _ _ _ _ _ us hl => match us, hl with | [_, _], _ => rfl
  have F11 := fun_mk (st := s_p_solve_linear) l11 c11 k11
  have b11 := F11.binds (ps := ["rows", "targets"]) fun _ _ _ _ _ _ us hl => match us, hl with | [_, _], _ => rfl
  have F12 := fun_mk (st := s_l_source) l12 c12 k12
  have b12 := F12.binds (ps := ["_law_script"]) fun _ _ _ _ _ _ us hl => match us, hl with | [_], _ => rfl
  have F13 := fun_mk (st := s_l_draw) l13 c13 k13
  have b13 := F13.binds (ps := ["_law_rng", "_law_quantity"]) fun _ _ _ _ _ _ us hl => match us, hl with | [_, _], _ => rfl
  have F14 := fun_mk (st := s_l_choice) l14 c14 k14
  have b14 := F14.binds (ps := ["_law_rng", "_law_some"]) fun _ _ _ _ _ _ us hl => match us, hl with | [_, _], _ => rfl
  have F15 := fun_mk (st := s_l_equal) l15 c15 k15
  have b15 := F15.binds (ps := ["_law_result", "_law_expected"]) fun _ _ _ _ _ _ us hl => match us, hl with | [_, _], _ => rfl
  have F16 := fun_mk (st := s_l_reduce) l16 c16 k16
  have b16 := F16.binds (ps := ["_law_num", "_law_den"]) fun _ _ _ _ _ _ us hl => match us, hl with | [_, _], _ => rfl
  have F17 := fun_mk (st := s_l_add) l17 c17 k17
  have b17 := F17.binds (ps := ["_law_one", "_law_other"]) fun _ _ _ _ _ _ us hl => match us, hl with | [_, _], _ => rfl
  have F18 := fun_mk (st := s_l_multiply) l18 c18 k18
  have b18 := F18.binds (ps := ["_law_one", "_law_other"]) fun _ _ _ _ _ _ us hl => match us, hl with | [_, _], _ => rfl
  have F19 := fun_mk (st := s_l_sum) l19 c19 k19
  have b19 := F19.binds (ps := ["_law_some"]) fun _ _ _ _ _ _ us hl => match us, hl with | [_], _ => rfl
  have F20 := fun_mk (st := s_l_small) l20 c20 k20
  have b20 := F20.binds (ps := ["_law_rng"]) fun _ _ _ _ _ _ us hl => match us, hl with | [_], _ => rfl
  have F21 := fun_mk (st := s_l_linear_case) l21 c21 k21
  have b21 := F21.binds (ps := ["_law_rng"]) fun _ _ _ _ _ _ us hl => match us, hl with | [_], _ => rfl
  have F22 := fun_mk (st := s_l_check_solution) l22 c22 k22
  have b22 := F22.binds (ps := ["_law_my_rows", "_law_my_targets", "_law_answer"]) fun _ _ _ _ _ _ us hl => match us, hl with | [_, _, _], _ => rfl
  have F23 := fun_mk (st := s_p_law) l23 c23 k23
  have b23 := F23.binds (ps := ["_law_script"]) fun _ _ _ _ _ _ us hl => match us, hl with | [_], _ => rfl
  have kb_p_solve_linear_0_targets_rows : ∃ g, KBn K (PySem.W.fnOf "solve_linear" "solve_linear" (defArgs s_p_solve_linear) (defBody s_p_solve_linear) (defScope s_p_solve_linear) .none kV11 dc11 pm11 an11 cd11 ct11) ["rows", "targets"] 0 ["targets", "rows"] g kg_p_solve_linear_0_targets_rows := ⟨kg_p_solve_linear_0_targets_rows, ⟨fun s us ws _ h1 h2 => match us, ws, h1, h2 with | [], [_, _], _, _ => .of_eq rfl, fun {vs us zs ws} r1 r2 => kgr_p_solve_linear_0_targets_rows r1 r2⟩⟩
  let A : Ad := { f_p_greatest_divisor := f0, fd_p_greatest_divisor := PySem.W.fnOf "greatest_divisor" "greatest_divisor" (defArgs s_p_greatest_divisor) (defBody s_p_greatest_divisor) (defScope s_p_greatest_divisor) .none kV0 dc0 pm0 an0 cd0 ct0, f_p_least_multiple := f1, fd_p_least_multiple := PySem.W.fnOf "least_multiple" "least_multiple" (defArgs s_p_least_multiple) (defBody s_p_least_multiple) (defScope s_p_least_multiple) .none kV1 dc1 pm1 an1 cd1 ct1, f_p_common_denominator := f2, fd_p_common_denominator := PySem.W.fnOf "common_denominator" "common_denominator" (defArgs s_p_common_denominator) (defBody s_p_common_denominator) (defScope s_p_common_denominator) .none kV2 dc2 pm2 an2 cd2 ct2, f_p_fraction := f3, fd_p_fraction := PySem.W.fnOf "fraction" "fraction" (defArgs s_p_fraction) (defBody s_p_fraction) (defScope s_p_fraction) (.ref dT3) kV3 dc3 pm3 an3 cd3 ct3, f_p_check_shape := f4, fd_p_check_shape := PySem.W.fnOf "check_shape" "check_shape" (defArgs s_p_check_shape) (defBody s_p_check_shape) (defScope s_p_check_shape) .none kV4 dc4 pm4 an4 cd4 ct4, f_p_columns_of := f5, fd_p_columns_of := PySem.W.fnOf "columns_of" "columns_of" (defArgs s_p_columns_of) (defBody s_p_columns_of) (defScope s_p_columns_of) .none kV5 dc5 pm5 an5 cd5 ct5, f_p_as_integers := f6, fd_p_as_integers := PySem.W.fnOf "as_integers" "as_integers" (defArgs s_p_as_integers) (defBody s_p_as_integers) (defScope s_p_as_integers) .none kV6 dc6 pm6 an6 cd6 ct6, f_p_clear_column := f7, fd_p_clear_column := PySem.W.fnOf "clear_column" "clear_column" (defArgs s_p_clear_column) (defBody s_p_clear_column) (defScope s_p_clear_column) .none kV7 dc7 pm7 an7 cd7 ct7, f_p_first_nonzero := f8, fd_p_first_nonzero := PySem.W.fnOf "first_nonzero" "first_nonzero" (defArgs s_p_first_nonzero) (defBody s_p_first_nonzero) (defScope s_p_first_nonzero) .none kV8 dc8 pm8 an8 cd8 ct8, f_p_eliminate := f9, fd_p_eliminate := PySem.W.fnOf "eliminate" "eliminate" (defArgs s_p_eliminate) (defBody s_p_eliminate) (defScope s_p_eliminate) .none kV9 dc9 pm9 an9 cd9 ct9, f_p_solution_of := f10, fd_p_solution_of := PySem.W.fnOf "solution_of" "solution_of" (defArgs s_p_solution_of) (defBody s_p_solution_of) (defScope s_p_solution_of) .none kV10 dc10 pm10 an10 cd10 ct10, f_p_solve_linear := f11, fd_p_solve_linear := PySem.W.fnOf "solve_linear" "solve_linear" (defArgs s_p_solve_linear) (defBody s_p_solve_linear) (defScope s_p_solve_linear) .none kV11 dc11 pm11 an11 cd11 ct11, f_l_source := f12, fd_l_source := PySem.W.fnOf "_law_source" "_law_source" (defArgs s_l_source) (defBody s_l_source) (defScope s_l_source) .none kV12 dc12 pm12 an12 cd12 ct12, f_l_draw := f13, fd_l_draw := PySem.W.fnOf "_law_draw" "_law_draw" (defArgs s_l_draw) (defBody s_l_draw) (defScope s_l_draw) .none kV13 dc13 pm13 an13 cd13 ct13, f_l_choice := f14, fd_l_choice := PySem.W.fnOf "_law_choice" "_law_choice" (defArgs s_l_choice) (defBody s_l_choice) (defScope s_l_choice) .none kV14 dc14 pm14 an14 cd14 ct14, f_l_equal := f15, fd_l_equal := PySem.W.fnOf "_law_equal" "_law_equal" (defArgs s_l_equal) (defBody s_l_equal) (defScope s_l_equal) .none kV15 dc15 pm15 an15 cd15 ct15, f_l_reduce := f16, fd_l_reduce := PySem.W.fnOf "_law_reduce" "_law_reduce" (defArgs s_l_reduce) (defBody s_l_reduce) (defScope s_l_reduce) .none kV16 dc16 pm16 an16 cd16 ct16, f_l_add := f17, fd_l_add := PySem.W.fnOf "_law_add" "_law_add" (defArgs s_l_add) (defBody s_l_add) (defScope s_l_add) .none kV17 dc17 pm17 an17 cd17 ct17, f_l_multiply := f18, fd_l_multiply := PySem.W.fnOf "_law_multiply" "_law_multiply" (defArgs s_l_multiply) (defBody s_l_multiply) (defScope s_l_multiply) .none kV18 dc18 pm18 an18 cd18 ct18, f_l_sum := f19, fd_l_sum := PySem.W.fnOf "_law_sum" "_law_sum" (defArgs s_l_sum) (defBody s_l_sum) (defScope s_l_sum) .none kV19 dc19 pm19 an19 cd19 ct19, f_l_small := f20, fd_l_small := PySem.W.fnOf "_law_small" "_law_small" (defArgs s_l_small) (defBody s_l_small) (defScope s_l_small) .none kV20 dc20 pm20 an20 cd20 ct20, f_l_linear_case := f21, fd_l_linear_case := PySem.W.fnOf "_law_linear_case" "_law_linear_case" (defArgs s_l_linear_case) (defBody s_l_linear_case) (defScope s_l_linear_case) .none kV21 dc21 pm21 an21 cd21 ct21, f_l_check_solution := f22, fd_l_check_solution := PySem.W.fnOf "_law_check_solution" "_law_check_solution" (defArgs s_l_check_solution) (defBody s_l_check_solution) (defScope s_l_check_solution) .none kV22 dc22 pm22 an22 cd22 ct22, f_p_law := fa, fd_p_law := PySem.W.fnOf "law" "law" (defArgs s_p_law) (defBody s_p_law) (defScope s_p_law) .none kV23 dc23 pm23 an23 cd23 ct23, o_ZERO := o_ZERO }
  have T : Txt K mg A := { F_p_greatest_divisor := F0, g_p_greatest_divisor := PySem.W.mg_of X G a0, b_p_greatest_divisor := b0, F_p_least_multiple := F1, g_p_least_multiple := PySem.W.mg_of X G a1, b_p_least_multiple := b1, F_p_common_denominator := F2, g_p_common_denominator := PySem.W.mg_of X G a2, b_p_common_denominator := b2, F_p_fraction := F3, g_p_fraction := PySem.W.mg_of X G a3, b_p_fraction_2 := b3_2, F_p_check_shape := F4, g_p_check_shape := PySem.W.mg_of X G a4, b_p_check_shape := b4, F_p_columns_of := F5, g_p_columns_of := PySem.W.mg_of X G a5, b_p_columns_of := b5, F_p_as_integers := F6, g_p_as_integers := PySem.W.mg_of X G a6, b_p_as_integers := b6, F_p_clear_column := F7, g_p_clear_column := PySem.W.mg_of X G a7, b_p_clear_column := b7, F_p_first_nonzero := F8, g_p_first_nonzero := PySem.W.mg_of X G a8, b_p_first_nonzero := b8, F_p_eliminate := F9, g_p_eliminate := PySem.W.mg_of X G a9, b_p_eliminate := b9, F_p_solution_of := F10, g_p_solution_of := PySem.W.mg_of X G a10, b_p_solution_of := b10, F_p_solve_linear := F11, g_p_solve_linear := PySem.W.mg_of X G a11, b_p_solve_linear := b11, F_l_source := F12, g_l_source := PySem.W.mg_of X G a12, b_l_source := b12, F_l_draw := F13, g_l_draw := PySem.W.mg_of X G a13, b_l_draw := b13, F_l_choice := F14, g_l_choice := PySem.W.mg_of X G a14, b_l_choice := b14, F_l_equal := F15, g_l_equal := PySem.W.mg_of X G a15, b_l_equal := b15, F_l_reduce := F16, g_l_reduce := PySem.W.mg_of X G a16, b_l_reduce := b16, F_l_add := F17, g_l_add := PySem.W.mg_of X G a17, b_l_add := b17, F_l_multiply := F18, g_l_multiply := PySem.W.mg_of X G a18, b_l_multiply := b18, F_l_sum := F19, g_l_sum := PySem.W.mg_of X G a19, b_l_sum := b19, F_l_small := F20, g_l_small := PySem.W.mg_of X G a20, b_l_small := b20, F_l_linear_case := F21, g_l_linear_case := PySem.W.mg_of X G a21, b_l_linear_case := b21, F_l_check_solution := F22, g_l_check_solution := PySem.W.mg_of X G a22, b_l_check_solution := b22, F_p_law := F23, g_p_law := PySem.W.mg_of X G a23, b_p_law := b23, n_abs := PySem.W.mg_none_of X G z0, n_enumerate := PySem.W.mg_none_of X G z1, n_len := PySem.W.mg_none_of X G z2, n_list := PySem.W.mg_none_of X G z3, n_zip := PySem.W.mg_none_of X G z4, n_range := PySem.W.mg_none_of X G z5, n_any := PySem.W.mg_none_of X G z6, n_isinstance := PySem.W.mg_none_of X G z7, n_tuple := PySem.W.mg_none_of X G z8, n_all := PySem.W.mg_none_of X G z9, n_bool := PySem.W.mg_none_of X G z10, n_int := PySem.W.mg_none_of X G z11, n_str := PySem.W.mg_none_of X G z12, n_repr := PySem.W.mg_none_of X G z13, c_ZERO := PySem.W.mg_of X G q_ZERO, t_ZERO := fun H => .inr ⟨_, _, _, m_ZERO, rfl, rfl, (by show 2 ≤ sizeLine; decide), (.cons ⟨_, rfl⟩ (.cons ⟨_, rfl⟩ .nil))⟩, kb_p_solve_linear_0_targets_rows := kb_p_solve_linear_0_targets_rows }
  exact ⟨PySem.W.fnOf "law" "law" (defArgs s_p_law) (defBody s_p_law) (defScope s_p_law) .none kV23 dc23 pm23 an23 cd23 ct23, fun s v => .of_eq rfl, fun base _ _ => ok_p_law (a := A) T⟩
end Gait
open PySem PySem.W PyProof.Rows
set_option maxRecDepth 100000 in
set_option maxHeartbeats 0 in
theorem PySem.Challenge.cw_gaithold_k19_whole_linear_equations_holds : PySem.Challenge.rw_gaithold_k19_whole_linear_equations.Holds := by
  w_on; o_law; k_head; (case hw => w_witness2)
  k_fill
  refine GdL.walk_ofG (l := PySem.Challenge.rw_gaithold_k19_whole_linear_equations) (n := 63) (k := 22) (x := "_law_script") (sp := fun w => Gait.sp_p_law _) rfl (by decide) rfl ⟨rfl, by decide, by decide⟩ (fun w h Y => PySem.W.kIn_of Y) ?F (fun _ _ a ns hl hS => ⟨a, ns, rfl, hS, hl, fun _ => rfl⟩)
  case F =>
    intro w mg fa h KX G hmg
    refine' Gait.all_mk KX G hmg ?a0 ?l0 ?c0 ?k0 ?a1 ?l1 ?c1 ?k1 ?a2 ?l2 ?c2 ?k2 ?a3 ?l3 ?c3 ?k3 ?d3 ?a4 ?l4 ?c4 ?k4 ?a5 ?l5 ?c5 ?k5 ?a6 ?l6 ?c6 ?k6 ?a7 ?l7 ?c7 ?k7 ?a8 ?l8 ?c8 ?k8 ?a9 ?l9 ?c9 ?k9 ?a10 ?l10 ?c10 ?k10 ?a11 ?l11 ?c11 ?k11 ?a12 ?l12 ?c12 ?k12 ?a13 ?l13 ?c13 ?k13 ?a14 ?l14 ?c14 ?k14 ?a15 ?l15 ?c15 ?k15 ?a16 ?l16 ?c16 ?k16 ?a17 ?l17 ?c17 ?k17 ?a18 ?l18 ?c18 ?k18 ?a19 ?l19 ?c19 ?k19 ?a20 ?l20 ?c20 ?k20 ?a21 ?l21 ?c21 ?k21 ?a22 ?l22 ?c22 ?k22 ?a23 ?l23 ?c23 ?k23 ?z0 ?z1 ?z2 ?z3 ?z4 ?z5 ?z6 ?z7 ?z8 ?z9 ?z10 ?z11 ?z12 ?z13 ?q_ZERO ?m_ZERO
    (case a0 => k_is); (case l0 => k_is); (case c0 => k_is); (case k0 => k_is); (case a1 => k_is); (case l1 => k_is); (case c1 => k_is); (case k1 => k_is); (case a2 => k_is); (case l2 => k_is); (case c2 => k_is); (case k2 => k_is); (case a3 => k_is); (case l3 => k_is); (case c3 => k_is); (case k3 => k_is); (case d3 => k_is); (case a4 => k_is); (case l4 => k_is); (case c4 => k_is); (case k4 => k_is); (case a5 => k_is); (case l5 => k_is); (case c5 => k_is); (case k5 => k_is); (case a6 => k_is); (case l6 => k_is); (case c6 => k_is); (case k6 => k_is); (case a7 => k_is); (case l7 => k_is); (case c7 => k_is); (case k7 => k_is); (case a8 => k_is); (case l8 => k_is); (case c8 => k_is); (case k8 => k_is); (case a9 => k_is); (case l9 => k_is); (case c9 => k_is); (case k9 => k_is); (case a10 => k_is); (case l10 => k_is); (case c10 => k_is); (case k10 => k_is); (case a11 => k_is); (case l11 => k_is); (case c11 => k_is); (case k11 => k_is); (case a12 => k_is); (case l12 => k_is); (case c12 => k_is); (case k12 => k_is); (case a13 => k_is); (case l13 => k_is); (case c13 => k_is); (case k13 => k_is); (case a14 => k_is); (case l14 => k_is); (case c14 => k_is); (case k14 => k_is); (case a15 => k_is); (case l15 => k_is); (case c15 => k_is); (case k15 => k_is); (case a16 => k_is); (case l16 => k_is); (case c16 => k_is); (case k16 => k_is); (case a17 => k_is); (case l17 => k_is); (case c17 => k_is); (case k17 => k_is); (case a18 => k_is); (case l18 => k_is); (case c18 => k_is); (case k18 => k_is); (case a19 => k_is); (case l19 => k_is); (case c19 => k_is); (case k19 => k_is); (case a20 => k_is); (case l20 => k_is); (case c20 => k_is); (case k20 => k_is); (case a21 => k_is); (case l21 => k_is); (case c21 => k_is); (case k21 => k_is); (case a22 => k_is); (case l22 => k_is); (case c22 => k_is); (case k22 => k_is); (case a23 => k_is); (case l23 => k_is); (case c23 => k_is); (case k23 => k_is); (case z0 => k_is); (case z1 => k_is); (case z2 => k_is); (case z3 => k_is); (case z4 => k_is); (case z5 => k_is); (case z6 => k_is); (case z7 => k_is); (case z8 => k_is); (case z9 => k_is); (case z10 => k_is); (case z11 => k_is); (case z12 => k_is); (case z13 => k_is); (case q_ZERO => k_is); (case m_ZERO => k_is)
