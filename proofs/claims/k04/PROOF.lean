import PyProof.Rows.All
import Wide.All
import OpenK.AllK
import Wide.FinOn
import PySem.Challenge.RW_gaithold_k04_ceilings
import HandS.ForMost
import HandS.Wide
import HandS.IsInst
import HandS.Zip
import HandS.Codes
set_option Elab.async false
set_option linter.all false
set_option maxRecDepth 100000
set_option maxHeartbeats 4000000
namespace Gait
open PySem PySem.Spec PyProof.Rows L2
section
variable {X : Cx}
/-- // by any divisor but 0 -/
def CDivA (_ j : Int) : Prop := j ≠ 0 ∧ j.natAbs.log2 < 9000
theorem op_fdivA : OpR X (binaryOp .FloorDiv) (rI CDivA fun i j => .int (i.fdiv j)) := opI fun _ _ _ _ _ _ _ hc w => floordiv_int hc.1 w (.inl (PyProof.noPylong_of_log2 hc.2))
end
/-- what stood stands, but for what stands at r -/
def Kp (r : Addr) (H H' : Hp) : Prop := ∀ b o, b ≠ r → H b = some o → H' b = some o
theorem Kp.refl {r : Addr} {H : Hp} : Kp r H H := fun _ _ _ h => h
theorem Kp.trans {r : Addr} {H H1 H2 : Hp} (a : Kp r H H1) (b : Kp r H1 H2) : Kp r H H2 := fun c o n h => b c o n (a c o n h)
theorem Kp.of {r : Addr} {H H' : Hp} (s : Same H H') : Kp r H H' := fun b o _ h => s b o h
theorem Kp.at {r : Addr} {H : Hp} {o : HO} : Kp r H (upd H r o) := fun b u n h => by rw [upd_ne n]; exact h
theorem Kp.rd {r x : Addr} {H H' : Hp} {u : HO} (k : Kp r H H') (n : x ≠ r) (h : Rd H x u) : Rd H' x u := by
  rcases h with h | ⟨o, h⟩
  · exact .inl (k _ _ n h)
  · exact .inr ⟨o, k _ _ n h⟩
theorem Kp.L {K : PySem.W.Frag} {r x : Addr} {H H' : Hp} {xs : List V} (k : Kp r H H') (n : x ≠ r) (h : SqL K H x xs) : SqL K H' x xs := by
  rcases h with h | h
  · exact .inl (k.rd n h)
  · exact .inr h
theorem Kp.T {K : PySem.W.Frag} {r x : Addr} {H H' : Hp} {xs : List V} (k : Kp r H H') (n : x ≠ r) (h : SqT K H x xs) : SqT K H' x xs := by
  rcases h with h | h
  · exact .inl (k.rd n h)
  · exact .inr h
theorem Same.T {K : PySem.W.Frag} {x : Addr} {H H' : Hp} {xs : List V} (k : Same H H') (h : SqT K H x xs) : SqT K H' x xs := by
  rcases h with (h | ⟨o, h⟩) | h
  · exact .inl (.inl (k _ _ h))
  · exact .inl (.inr ⟨o, k _ _ h⟩)
  · exact .inr h
theorem Same.new {H : Hp} {p : Addr} {o : HO} (h : H p = none) : Same H (upd H p o) := fun b x e => by
  rw [upd_ne (ne_of_none e h)]
  exact e
theorem some_ne_none {H : Hp} {p q : Addr} {o : HO} (h : H p = some o) (n : H q = none) : p ≠ q := ne_of_none h n
/-- the law's source of numbers at r -/
structure RgS (H : Hp) (r c : Addr) (ns : List Int) (i x k : Int) : Prop where
  hr : H r = some (.lst [.ref c, .int i, .int x, .int k])
  hc : H c = some (.lst (ns.map V.int))
  i0 : 0 ≤ i
  i1 : i ≤ (ns.length : Int)
  x0 : 0 ≤ x
  k0 : 0 ≤ k
  k1 : k < 2147483563
theorem RgS.ne {H : Hp} {r c : Addr} {ns : List Int} {i x k : Int} (R : RgS H r c ns i x k) : c ≠ r := by
  refine ne_of R.hc R.hr fun z => ?_
  cases ns with
  | nil => cases z
  | cons m l => cases z
theorem RgS.set {H : Hp} {r c : Addr} {ns : List Int} {i x k i' x' k' : Int} (R : RgS H r c ns i x k) (i0 : 0 ≤ i') (i1 : i' ≤ (ns.length : Int)) (x0 : 0 ≤ x') (k0 : 0 ≤ k') (k1 : k' < 2147483563) : RgS (upd H r (.lst [.ref c, .int i', .int x', .int k'])) r c ns i' x' k' :=
  ⟨upd_same, by rw [upd_ne R.ne]; exact R.hc, i0, i1, x0, k0, k1⟩
def Rg (H : Hp) (r : Addr) : Prop := ∃ c ns i x k, RgS H r c ns i x k
theorem Rg.same {H H' : Hp} {r : Addr} (R : Rg H r) (s : Same H H') : Rg H' r := by
  obtain ⟨c, ns, i, x, k, R⟩ := R
  exact ⟨c, ns, i, x, k, s _ _ R.hr, s _ _ R.hc, R.i0, R.i1, R.x0, R.k0, R.k1⟩
theorem Rg.some {H : Hp} {r : Addr} (R : Rg H r) : ∃ o, H r = some o := by
  obtain ⟨c, ns, i, x, k, R⟩ := R
  exact ⟨_, R.hr⟩
theorem Rg.ne {H : Hp} {r p : Addr} (R : Rg H r) (h : H p = none) : p ≠ r := by
  obtain ⟨o, e⟩ := R.some
  exact (ne_of_none e h).symm
theorem sz {n : Nat} (h : n ≤ 100000) : n ≤ sizeLine := Nat.le_trans h (by decide)
theorem szl {n : Nat} (h : n < 100000) : n < sizeLine := Nat.lt_of_lt_of_le h (by decide)
theorem gcd_step {a b : Int} (h0 : 0 ≤ a) (hb : 0 ≤ b) : Int.gcd b (a % b) = Int.gcd a b := by
  rw [Int.gcd_eq_natAbs_gcd_natAbs, Int.gcd_eq_natAbs_gcd_natAbs, Int.natAbs_emod_of_nonneg h0, Nat.gcd_comm a.natAbs b.natAbs, Nat.gcd_rec b.natAbs a.natAbs, Nat.gcd_comm]
/-- a fraction in lowest terms -/
def red (n d : Int) : Int × Int := ((if d > 0 then 1 else -1) * n / (Int.gcd n d : Int), (if d > 0 then 1 else -1) * d / (Int.gcd n d : Int))
theorem gcd_posI {n d : Int} (hd : d ≠ 0) : (0 : Int) < (Int.gcd n d : Int) := by
  have : 0 < Int.gcd n d := Int.gcd_pos_of_ne_zero_right n hd
  omega
theorem sgn_cases (d : Int) : ((if d > 0 then (1 : Int) else -1) = 1 ∧ d > 0) ∨ ((if d > 0 then (1 : Int) else -1) = -1 ∧ ¬ d > 0) := by
  by_cases h : d > 0
  · exact .inl ⟨if_pos h, h⟩
  · exact .inr ⟨if_neg h, h⟩
theorem red_parts {n d : Int} (hd : d ≠ 0) : ∃ s g a b : Int, (s = 1 ∨ s = -1) ∧ 0 < g ∧ g = (Int.gcd n d : Int) ∧ s * n = g * a ∧ s * d = g * b ∧ 0 < b ∧ red n d = (a, b) ∧ Int.gcd a b = 1 := by
  have g0 := gcd_posI (n := n) hd
  obtain ⟨u, hu⟩ := Int.gcd_dvd_left n d
  obtain ⟨v, hv⟩ := Int.gcd_dvd_right n d
  have hg : Int.gcd u v = 1 := by
    have h1 : Int.gcd n d = (Int.gcd n d) * Int.gcd u v := by
      have e := Int.gcd_mul_left (Int.gcd n d : Int) u v
      rw [← hu, ← hv] at e
      simpa using e
    have h2 : 0 < Int.gcd n d := by omega
    have h3 : Int.gcd n d * 1 = Int.gcd n d * Int.gcd u v := by omega
    exact (Nat.eq_of_mul_eq_mul_left h2 h3).symm
  generalize hG : (Int.gcd n d : Int) = g at *
  have key : ∀ s : Int, (s = 1 ∨ s = -1) → Int.gcd (s * u) (s * v) = 1 := by
    intro s hs
    rcases hs with rfl | rfl
    · simpa using hg
    · simpa using hg
  have div : ∀ s w x : Int, x = g * w → s * x / g = s * w := by
    intro s w x e
    rw [e, show s * (g * w) = g * (s * w) by rw [← Int.mul_assoc, Int.mul_comm s g, Int.mul_assoc]]
    exact Int.mul_ediv_cancel_left _ (by omega)
  rcases sgn_cases d with ⟨e, h⟩ | ⟨e, h⟩
  · refine ⟨1, g, 1 * u, 1 * v, .inl rfl, g0, rfl, ?_, ?_, ?_, ?_, key 1 (.inl rfl)⟩
    · rw [hu]; simp
    · rw [hv]; simp
    · have : 0 < g * v := by omega
      have := Int.pos_of_mul_pos_right this (by omega)
      omega
    · unfold red
      rw [e, hG, div 1 u n hu, div 1 v d hv]
  · refine ⟨-1, g, -1 * u, -1 * v, .inr rfl, g0, rfl, ?_, ?_, ?_, ?_, key (-1) (.inr rfl)⟩
    · rw [hu]; simp [Int.mul_neg]
    · rw [hv]; simp [Int.mul_neg]
    · have h4 : 0 < g * (-v) := by
        rw [Int.mul_neg]
        omega
      have := Int.pos_of_mul_pos_right h4 (by omega)
      omega
    · unfold red
      rw [e, hG, div (-1) u n hu, div (-1) v d hv]
theorem red_pos {n d : Int} (hd : d ≠ 0) : 0 < (red n d).2 := by
  obtain ⟨s, g, a, b, _, _, _, _, _, hb, e, _⟩ := red_parts (n := n) hd
  rw [e]; exact hb
theorem red_gcd {n d : Int} (hd : d ≠ 0) : Int.gcd (red n d).1 (red n d).2 = 1 := by
  obtain ⟨s, g, a, b, _, _, _, _, _, hb, e, hg⟩ := red_parts (n := n) hd
  rw [e]; exact hg
theorem red_eq {n d : Int} (hd : d ≠ 0) : (red n d).1 * d = n * (red n d).2 := by
  obtain ⟨s, g, a, b, hs, g0, _, h1, h2, hb, e, hg⟩ := red_parts (n := n) hd
  rw [e]
  show a * d = n * b
  have hs2 : s ≠ 0 := by omega
  apply Int.eq_of_mul_eq_mul_left (a := s * g) (by
    intro z
    rcases Int.mul_eq_zero.mp z with z | z <;> omega)
  calc s * g * (a * d) = (g * a) * (s * d) := by simp only [Int.mul_assoc, Int.mul_comm, Int.mul_left_comm]
    _ = (s * n) * (g * b) := by rw [h1, h2]
    _ = s * g * (n * b) := by simp only [Int.mul_assoc, Int.mul_comm, Int.mul_left_comm]
theorem natAbs_sgn {s n : Int} (hs : s = 1 ∨ s = -1) : (s * n).natAbs = n.natAbs := by
  rcases hs with rfl | rfl
  · simp
  · simp
theorem red_le1 {n d : Int} (hd : d ≠ 0) : (red n d).1.natAbs ≤ n.natAbs := by
  obtain ⟨s, g, a, b, hs, g0, _, h1, h2, hb, e, hg⟩ := red_parts (n := n) hd
  rw [e, ← natAbs_sgn (n := n) hs, h1, Int.natAbs_mul]
  exact Nat.le_mul_of_pos_left _ (by omega)
theorem red_le2 {n d : Int} (hd : d ≠ 0) : (red n d).2.natAbs ≤ d.natAbs := by
  obtain ⟨s, g, a, b, hs, g0, _, h1, h2, hb, e, hg⟩ := red_parts (n := n) hd
  rw [e, ← natAbs_sgn (n := d) hs, h2, Int.natAbs_mul]
  exact Nat.le_mul_of_pos_left _ (by omega)
theorem dvd_cop {x y z : Int} (h : x ∣ y * z) (g : Int.gcd x z = 1) : x ∣ y := by
  rw [← Int.natAbs_dvd_natAbs, Int.natAbs_mul] at h
  rw [← Int.natAbs_dvd_natAbs]
  exact Nat.Coprime.dvd_of_dvd_mul_right g h
theorem low_unique {a b c e : Int} (hb : 0 < b) (he : 0 < e) (g1 : Int.gcd a b = 1) (g2 : Int.gcd c e = 1) (h : a * e = c * b) : a = c ∧ b = e := by
  have d1 : b ∣ e := by
    have : b ∣ e * a := ⟨c, by rw [Int.mul_comm e a, h, Int.mul_comm]⟩
    exact dvd_cop this (by rw [Int.gcd_comm]; exact g1)
  have d2 : e ∣ b := by
    have : e ∣ b * c := ⟨a, by rw [Int.mul_comm b c, ← h, Int.mul_comm]⟩
    exact dvd_cop this (by rw [Int.gcd_comm]; exact g2)
  have hbe : b = e := Int.dvd_antisymm (by omega) (by omega) d1 d2
  subst hbe
  exact ⟨Int.eq_of_mul_eq_mul_right (by omega) h, rfl⟩
theorem red_unique {n d a b : Int} (hd : d ≠ 0) (hb : 0 < b) (g : Int.gcd a b = 1) (h : a * d = n * b) : red n d = (a, b) := by
  have h1 := red_eq (n := n) hd
  have h2 : (red n d).1 * b = a * (red n d).2 := by
    apply Int.eq_of_mul_eq_mul_right hd
    calc (red n d).1 * b * d = ((red n d).1 * d) * b := by simp only [Int.mul_assoc, Int.mul_comm, Int.mul_left_comm]
      _ = (n * b) * (red n d).2 := by rw [h1]; simp only [Int.mul_assoc, Int.mul_comm, Int.mul_left_comm]
      _ = a * (red n d).2 * d := by rw [← h]; simp only [Int.mul_assoc, Int.mul_comm, Int.mul_left_comm]
  obtain ⟨e1, e2⟩ := low_unique (red_pos (n := n) hd) hb (red_gcd hd) g h2
  exact Prod.ext e1 e2
theorem red_self {n d : Int} (hd : 0 < d) (g : Int.gcd n d = 1) : red n d = (n, d) := red_unique (by omega) hd g rfl

/-- the fraction n / d, as a tuple -/
def Fr (K : PySem.W.Frag) (H : Hp) (v : V) (n d : Int) : Prop := ∃ p, v = .ref p ∧ SqT K H p [.int n, .int d]
theorem RgT {K : PySem.W.Frag} {H H' : Hp} {r p : Addr} {xs : List V} (R : Rg H r) (k : Kp r H H') (h : SqT K H p xs) : SqT K H' p xs := by
  obtain ⟨c, ns, i, x, kk, R⟩ := R
  rcases h with (h | ⟨o, h⟩) | h
  · exact .inl (.inl (k _ _ (ne_of h R.hr (fun z => by cases z)) h))
  · exact .inl (.inr ⟨o, k _ _ (ne_of h R.hr (fun z => by cases z)) h⟩)
  · exact .inr h
theorem Fr.kp {K : PySem.W.Frag} {H H' : Hp} {r : Addr} {v : V} {n d : Int} (f : Fr K H v n d) (R : Rg H r) (k : Kp r H H') : Fr K H' v n d := by
  obtain ⟨p, e, h⟩ := f
  exact ⟨p, e, RgT R k h⟩
theorem Fr.same {K : PySem.W.Frag} {H H' : Hp} {v : V} {n d : Int} (f : Fr K H v n d) (k : Same H H') : Fr K H' v n d := by
  obtain ⟨p, e, h⟩ := f
  exact ⟨p, e, Same.T k h⟩
theorem Fr.new {K : PySem.W.Frag} {H : Hp} {p : Addr} {n d : Int} : Fr K (upd H p (.tup [.int n, .int d])) (.ref p) n d := ⟨p, rfl, SqT.of upd_same⟩
/-- a fraction of the law's own: lowest terms, its size -/
structure FrB (K : PySem.W.Frag) (H : Hp) (v : V) (n d : Int) (B : Nat) : Prop where
  fr : Fr K H v n d
  d0 : 0 < d
  g : Int.gcd n d = 1
  nB : n.natAbs < 2 ^ B
  dB : d.natAbs < 2 ^ B
theorem FrB.kp {K : PySem.W.Frag} {H H' : Hp} {r : Addr} {v : V} {n d : Int} {B : Nat} (f : FrB K H v n d B) (R : Rg H r) (k : Kp r H H') : FrB K H' v n d B := ⟨f.fr.kp R k, f.d0, f.g, f.nB, f.dB⟩
theorem FrB.same {K : PySem.W.Frag} {H H' : Hp} {v : V} {n d : Int} {B : Nat} (f : FrB K H v n d B) (k : Same H H') : FrB K H' v n d B := ⟨f.fr.same k, f.d0, f.g, f.nB, f.dB⟩
theorem red_B {K : PySem.W.Frag} {H : Hp} {p : Addr} {n d : Int} {B : Nat} (hd : d ≠ 0) (h1 : n.natAbs < 2 ^ B) (h2 : d.natAbs < 2 ^ B) : FrB K (upd H p (.tup [.int (red n d).1, .int (red n d).2])) (.ref p) (red n d).1 (red n d).2 B :=
  ⟨Fr.new, red_pos hd, red_gcd hd, Nat.lt_of_le_of_lt (red_le1 hd) h1, Nat.lt_of_le_of_lt (red_le2 hd) h2⟩
theorem log2_lt {j : Int} {b : Nat} (hb : j.natAbs < 2 ^ b) (h0 : 0 < b) (h9 : b ≤ 9000) : j.natAbs.log2 < 9000 := Nat.lt_of_lt_of_le (PySem.Flt.log2_lt_of h0 hb) h9
/-! ### equal data -/
def atom : V → Bool
  | .non => true | .bl _ => true | .int _ => true | .str _ => true | _ => false
def Eqd (K : PySem.W.Frag) (H : Hp) : Nat → V → V → Prop
  | 0, x, y => x = y ∧ atom x = true
  | n + 1, x, y => (x = y ∧ atom x = true) ∨ ∃ a b xs ys, x = .ref a ∧ y = .ref b ∧ ((SqL K H a xs ∧ SqL K H b ys) ∨ (SqT K H a xs ∧ SqT K H b ys)) ∧ xs.length = ys.length ∧ xs.length ≤ 100000 ∧ ∀ (i : Nat) u v, xs[i]? = some u → ys[i]? = some v → Eqd K H n u v
theorem Eqd.same {K : PySem.W.Frag} {H H' : Hp} (s : Same H H') : ∀ {n : Nat} {x y : V}, Eqd K H n x y → Eqd K H' n x y
  | 0, _, _, h => h
  | n + 1, _, _, .inl h => .inl h
  | n + 1, _, _, .inr ⟨a, b, xs, ys, e1, e2, h, l, l2, k⟩ => .inr ⟨a, b, xs, ys, e1, e2, h.elim (fun z => .inl ⟨s.seq z.1, s.seq z.2⟩) (fun z => .inr ⟨Same.T s z.1, Same.T s z.2⟩), l, l2, fun i u v hu hv => Eqd.same s (k i u v hu hv)⟩
theorem Eqd.up {K : PySem.W.Frag} {H : Hp} : ∀ {n : Nat} {x y : V}, Eqd K H n x y → Eqd K H (n + 1) x y
  | 0, _, _, h => .inl h
  | n + 1, _, _, .inl h => .inl h
  | n + 1, _, _, .inr ⟨a, b, xs, ys, e1, e2, h, l, l2, k⟩ => .inr ⟨a, b, xs, ys, e1, e2, h, l, l2, fun i u v hu hv => Eqd.up (k i u v hu hv)⟩
theorem Eqd.mono {K : PySem.W.Frag} {H : Hp} {n m : Nat} {x y : V} (h : Eqd K H n x y) (l : n ≤ m) : Eqd K H m x y := by
  induction l with
  | refl => exact h
  | step _ ih => exact ih.up
theorem Eqd.atom {K : PySem.W.Frag} {H : Hp} {n : Nat} {x : V} (h : atom x = true) : Eqd K H n x x := by
  cases n with
  | zero => exact ⟨rfl, h⟩
  | succ n => exact .inl ⟨rfl, h⟩
theorem all2_nil {R : V → V → Prop} : ∀ (i : Nat) u v, ([] : List V)[i]? = some u → ([] : List V)[i]? = some v → R u v := fun i u v h => by cases h
theorem all2_cons {R : V → V → Prop} {x y : V} {xs ys : List V} (h : R x y) (k : ∀ (i : Nat) u v, xs[i]? = some u → ys[i]? = some v → R u v) : ∀ (i : Nat) u v, (x :: xs)[i]? = some u → (y :: ys)[i]? = some v → R u v
  | 0, u, v, h1, h2 => by cases h1; cases h2; exact h
  | i + 1, u, v, h1, h2 => k i u v h1 h2
theorem Eqd.lst {K : PySem.W.Frag} {H : Hp} {n : Nat} {a b : Addr} {xs ys : List V} (h1 : SqL K H a xs) (h2 : SqL K H b ys) (l : xs.length = ys.length) (l2 : xs.length ≤ 100000) (k : ∀ (i : Nat) u v, xs[i]? = some u → ys[i]? = some v → Eqd K H n u v) : Eqd K H (n + 1) (.ref a) (.ref b) :=
  .inr ⟨a, b, xs, ys, rfl, rfl, .inl ⟨h1, h2⟩, l, l2, k⟩
theorem Eqd.tup {K : PySem.W.Frag} {H : Hp} {n : Nat} {a b : Addr} {xs ys : List V} (h1 : SqT K H a xs) (h2 : SqT K H b ys) (l : xs.length = ys.length) (l2 : xs.length ≤ 100000) (k : ∀ (i : Nat) u v, xs[i]? = some u → ys[i]? = some v → Eqd K H n u v) : Eqd K H (n + 1) (.ref a) (.ref b) :=
  .inr ⟨a, b, xs, ys, rfl, rfl, .inr ⟨h1, h2⟩, l, l2, k⟩
theorem tyL {K : PySem.W.Frag} {H : Hp} {a : Addr} {xs : List V} (h : SqL K H a xs) : TyX K H (.ref a) (.type "list") := by
  rcases h with (h | ⟨o, h⟩) | ⟨o, its, n, h, c, _⟩
  · exact .base (.lst h)
  · exact .base (.frz h)
  · exact .kList h c
theorem tyT {K : PySem.W.Frag} {H : Hp} {a : Addr} {xs : List V} (h : SqT K H a xs) : TyX K H (.ref a) (.type "tuple") := by
  rcases h with (h | ⟨o, h⟩) | ⟨o, its, n, h, c, _⟩
  · exact .base (.tup h)
  · exact .fTuple h
  · exact .kTuple h c
theorem rd_isi {K : PySem.W.Frag} {H : Hp} {x : V} {t c : String} {b : Bool} {Q : VK} (ty : TyX K H x (.type t)) (h : kitB t c = some b) (w : Q (.bl b) H) : rIsi K [x, .ty c] H Q := ⟨x, .ty c, .type t, .type c, b, rfl, .ty c, ty, kit_ty h, w⟩
theorem ifF {c : Bool} {A B : Prop} (hc : c = false) (h : B) : if c = true then A else B := by rw [hc, if_neg Bool.false_ne_true]; exact h
theorem ifT {c : Bool} {A B : Prop} (hc : c = true) (h : A) : if c = true then A else B := by rw [if_pos hc]; exact h
theorem fn_false {P : Program} {w : World} {K : PySem.W.Frag} {mg : Str → Option Value} {base : Heap} {CX : CXT} {k : Nat} {f : Addr} {fd : FuncData} {ps : List Str} : FnOk P w K mg base CX k f fd ps (fun _ _ _ _ => False) :=
  ⟨fun _ _ _ _ h => h.elim, fun _ _ _ _ _ _ _ _ _ _ _ _ _ h => h.elim⟩
theorem tYes_if {σ : L2.St} {H : Hp} {A B : Hp → Prop} (h : A H) : tYes σ H fun b H3 => if b = true then A H3 else B H3 := by
  show (if true = true then A H else B H)
  rw [if_pos rfl]
  exact h


def topS (i : Nat) : Stmt := PySem.Challenge.pw_gaithold_k04_ceilings.main.body.getD i (.Pass ⟨0, 0, 0, 0⟩)
abbrev s_p_ceiling : Stmt := topS 1
theorem sc_p_ceiling : FnScope ["one"] ["one"] (defScope s_p_ceiling) := ⟨rfl, rfl, rfl, by decide +kernel, rfl, by decide +kernel, by decide +kernel⟩
abbrev s_l_source : Stmt := topS 3
theorem sc_l_source : FnScope ["_law_script", "_law_knot", "_law_cell"] ["_law_script"] (defScope s_l_source) := ⟨rfl, rfl, rfl, by decide +kernel, rfl, by decide +kernel, by decide +kernel⟩
abbrev s_l_draw : Stmt := topS 4
theorem sc_l_draw : FnScope ["_law_rng", "_law_quantity", "_law_cell", "_law_got", "_law_seed"] ["_law_rng", "_law_quantity"] (defScope s_l_draw) := ⟨rfl, rfl, rfl, by decide +kernel, rfl, by decide +kernel, by decide +kernel⟩
abbrev s_l_choice : Stmt := topS 5
theorem sc_l_choice : FnScope ["_law_rng", "_law_some"] ["_law_rng", "_law_some"] (defScope s_l_choice) := ⟨rfl, rfl, rfl, by decide +kernel, rfl, by decide +kernel, by decide +kernel⟩
abbrev s_l_equal : Stmt := topS 6
theorem sc_l_equal : FnScope ["_law_result", "_law_expected", "_law_one", "_law_other"] ["_law_result", "_law_expected"] (defScope s_l_equal) := ⟨rfl, rfl, rfl, by decide +kernel, rfl, by decide +kernel, by decide +kernel⟩
abbrev s_l_reduce : Stmt := topS 7
theorem sc_l_reduce : FnScope ["_law_num", "_law_den", "_law_one", "_law_other", "_law_sign"] ["_law_num", "_law_den"] (defScope s_l_reduce) := ⟨rfl, rfl, rfl, by decide +kernel, rfl, by decide +kernel, by decide +kernel⟩
abbrev s_l_small : Stmt := topS 8
theorem sc_l_small : FnScope ["_law_rng"] ["_law_rng"] (defScope s_l_small) := ⟨rfl, rfl, rfl, by decide +kernel, rfl, by decide +kernel, by decide +kernel⟩
abbrev s_l_wide : Stmt := topS 9
theorem sc_l_wide : FnScope ["_law_rng", "_law_wide_here"] ["_law_rng"] (defScope s_l_wide) := ⟨rfl, rfl, rfl, by decide +kernel, rfl, by decide +kernel, by decide +kernel⟩
abbrev s_p_law : Stmt := topS 10
theorem sc_p_law : FnScope ["_law_script", "_law_rng", "_law_turn", "_law_x", "_law_result"] ["_law_script"] (defScope s_p_law) := ⟨rfl, rfl, rfl, by decide +kernel, rfl, by decide +kernel, by decide +kernel⟩
structure Ad where
  f_p_ceiling : Addr
  fd_p_ceiling : FuncData
  f_l_source : Addr
  fd_l_source : FuncData
  f_l_draw : Addr
  fd_l_draw : FuncData
  f_l_choice : Addr
  fd_l_choice : FuncData
  f_l_equal : Addr
  fd_l_equal : FuncData
  f_l_reduce : Addr
  fd_l_reduce : FuncData
  f_l_small : Addr
  fd_l_small : FuncData
  f_l_wide : Addr
  fd_l_wide : FuncData
  f_p_law : Addr
  fd_p_law : FuncData
structure Txt (K : PySem.W.Frag) (mg : Str → Option Value) (a : Ad) : Prop where
  F_p_ceiling : Fun K "ceiling" "ceiling" s_p_ceiling a.f_p_ceiling a.fd_p_ceiling
  g_p_ceiling : mg "ceiling" = some (.ref a.f_p_ceiling)
  b_p_ceiling : Binds K a.fd_p_ceiling ["one"] []
  F_l_source : Fun K "_law_source" "_law_source" s_l_source a.f_l_source a.fd_l_source
  g_l_source : mg "_law_source" = some (.ref a.f_l_source)
  b_l_source : Binds K a.fd_l_source ["_law_script"] []
  F_l_draw : Fun K "_law_draw" "_law_draw" s_l_draw a.f_l_draw a.fd_l_draw
  g_l_draw : mg "_law_draw" = some (.ref a.f_l_draw)
  b_l_draw : Binds K a.fd_l_draw ["_law_rng", "_law_quantity"] []
  F_l_choice : Fun K "_law_choice" "_law_choice" s_l_choice a.f_l_choice a.fd_l_choice
  g_l_choice : mg "_law_choice" = some (.ref a.f_l_choice)
  b_l_choice : Binds K a.fd_l_choice ["_law_rng", "_law_some"] []
  F_l_equal : Fun K "_law_equal" "_law_equal" s_l_equal a.f_l_equal a.fd_l_equal
  g_l_equal : mg "_law_equal" = some (.ref a.f_l_equal)
  b_l_equal : Binds K a.fd_l_equal ["_law_result", "_law_expected"] []
  F_l_reduce : Fun K "_law_reduce" "_law_reduce" s_l_reduce a.f_l_reduce a.fd_l_reduce
  g_l_reduce : mg "_law_reduce" = some (.ref a.f_l_reduce)
  b_l_reduce : Binds K a.fd_l_reduce ["_law_num", "_law_den"] []
  F_l_small : Fun K "_law_small" "_law_small" s_l_small a.f_l_small a.fd_l_small
  g_l_small : mg "_law_small" = some (.ref a.f_l_small)
  b_l_small : Binds K a.fd_l_small ["_law_rng"] []
  F_l_wide : Fun K "_law_wide" "_law_wide" s_l_wide a.f_l_wide a.fd_l_wide
  g_l_wide : mg "_law_wide" = some (.ref a.f_l_wide)
  b_l_wide : Binds K a.fd_l_wide ["_law_rng"] []
  F_p_law : Fun K "law" "law" s_p_law a.f_p_law a.fd_p_law
  g_p_law : mg "law" = some (.ref a.f_p_law)
  b_p_law : Binds K a.fd_p_law ["_law_script"] []
  n_list : mg "list" = none
  n_len : mg "len" = none
  n_isinstance : mg "isinstance" = none
  n_tuple : mg "tuple" = none
  n_all : mg "all" = none
  n_bool : mg "bool" = none
  n_int : mg "int" = none
  n_str : mg "str" = none
  n_zip : mg "zip" = none
  n_abs : mg "abs" = none
  n_range : mg "range" = none

section
variable {P : Program} {w : World} {K : PySem.W.Frag} {mg : Str → Option Value} {base : Heap} {a : Ad}
def sp_p_ceiling (K : PySem.W.Frag) : Sp := fun vs H Q _ => ∃ (v : V) (n d : Int), vs = [v] ∧ Fr K H v n d ∧ 0 < d ∧ d.natAbs < 2 ^ 8000 ∧ Q (.int (-(-n / d))) H

theorem ok_p_ceiling (T : Txt K mg a) : FnOk P w K mg base CX0 1 a.f_p_ceiling a.fd_p_ceiling ["one"] (sp_p_ceiling K) := by
  refine T.F_p_ceiling.ok sc_p_ceiling (fun vs H Q E h => ?_) (fun cdv A outer s H vs Q E hr h => ?_)
  · obtain ⟨v, n, d, rfl, _⟩ := h
    rfl
  · obtain ⟨v, n, d, rfl, ⟨p, rfl, hp⟩, d0, dB, w⟩ := h
    refine ⟨_, (pss_one (ps_ret (pe_un un_neg (pe_op op_fdivW (pe_un un_neg (pe_ix ix_tup (pv 0) pe_int (fun _ _ => rfl))) (pe_ix ix_tup (pv 0) pe_int (fun _ _ => rfl)))))), ?_⟩
    exact ⟨.ref p, rfl, p, _, 0, _, rfl, rfl, hp, rfl, n, rfl, .ref p, rfl, p, _, 1, _, rfl, rfl, hp, rfl, -n, d, rfl, rfl, wide_div (b := 8000) d0 dB (by decide) (by decide), _, rfl, w⟩
end
section
variable {P : Program} {w : World} {K : PySem.W.Frag} {mg : Str → Option Value} {base : Heap} {a : Ad}
def sp_l_source (K : PySem.W.Frag) : Sp := fun vs H Q _ => ∃ (b : Addr) (ns : List Int), vs = [.ref b] ∧ SqL K H b (ns.map V.int) ∧ ns.length ≤ 63 ∧ ∀ H' r, Same H H' → H r = none → Rg H' r → Q (.ref r) H'
theorem cut63 {xs : List V} (h : xs.length ≤ 63) : cutV xs none (some 63) = xs := by
  unfold cutV
  rw [HT.sIx_none, show HT.sIx xs.length xs.length (some 63) = min 63 xs.length from HT.sIx_nat xs.length xs.length 63]
  rw [List.drop_zero, show min 63 xs.length - 0 = xs.length by omega, List.take_length]

theorem ok_l_source (T : Txt K mg a) : FnOk P w K mg base CX0 1 a.f_l_source a.fd_l_source ["_law_script"] (sp_l_source K) := by
  refine T.F_l_source.ok sc_l_source (fun vs H Q E h => ?_) (fun cdv A outer s H vs Q E hr h => ?_)
  · obtain ⟨b, ns, rfl, _⟩ := h
    rfl
  · obtain ⟨b, ns, rfl, hS, hlen, w⟩ := h
    refine ⟨_, (pss_cons (ps_set (i := 1) sc_l_source.nd rfl (by first | exact Or.inl rfl | exact Or.inr rfl) (pe_op op_add pe_int (pe_op op_mul pe_int (pe_callB call_len (by rfl) T.n_len (by decide +kernel) (pa_cons (pe_slice sl_list (pv 0) po_none (po_some pe_int)) pa_nil)))))
          (pss_cons (ps_for PassesOwn.never rfl (pi_list (pe_slice sl_list (pv 0) po_none (po_some pe_int))) (pg_name (i := 2) sc_l_source.nd rfl (by first | exact Or.inl rfl | exact Or.inr rfl)) (pss_one (ps_set (i := 1) sc_l_source.nd rfl (by first | exact Or.inl rfl | exact Or.inr rfl) (pe_op op_mod (pe_op op_add (pe_op op_add (pe_op op_mul (pv 1) pe_int) (pe_op op_mod (pv 2) pe_int)) pe_int) pe_int))))
          (pss_one (ps_ret (pe_lst (pa_cons (pe_callTy call_list_of (by rfl) T.n_list (by decide +kernel) (pa_cons (pe_slice sl_list (pv 0) po_none (po_some pe_int)) pa_nil)) (pa_cons pe_int (pa_cons pe_int (pa_cons (pv 1) pa_nil))))))))), ?_⟩
    have hl : (ns.map V.int).length ≤ 63 := by rw [List.length_map]; exact hlen
    refine ⟨.ref b, rfl, 63, rfl, b, _, rfl, hS, fun p np => ?_⟩
    rw [cut63 hl]
    have s1 : Same H (upd H p (.lst (ns.map V.int))) := Same.new np
    refine ⟨.ref p, ns.length, rfl, .inl ⟨_, SqL.of upd_same, by simp⟩, 67, _, rfl, rfl, .inl ⟨by decide, by decide⟩, 9472, _, rfl, rfl, ?_⟩
    refine ⟨.ref b, rfl, 63, rfl, b, _, rfl, s1.seq hS, fun p2 np2 => ?_⟩
    rw [cut63 hl]
    have s2 : Same H (upd (upd H p (.lst (ns.map V.int))) p2 (.lst (ns.map V.int))) := s1.trans (Same.new np2)
    refine ⟨p2, rfl, ⟨_, SqL.of upd_same⟩, for_list (K := K) (a := p2) (xs := ns.map V.int) (fun i σ H' => ∃ k y, σ = [some (.ref b), some (.int k), y] ∧ 0 ≤ k ∧ k < 2147483563 ∧ H' = upd (upd H p (.lst (ns.map V.int))) p2 (.lst (ns.map V.int)))
      ⟨_, none, rfl, by omega, by omega, rfl⟩ (fun i σ H' _ ⟨_, _, _, _, _, e⟩ => by rw [e]; exact SqL.of upd_same) ?_ ?_⟩
    · rintro i y σ H' hi ⟨k, y', rfl, k0, k1, rfl⟩
      obtain ⟨z, hz, rfl⟩ : ∃ z, ns[i]? = some z ∧ y = V.int z := by
        rw [List.getElem?_map] at hi
        cases e : ns[i]? with
        | none => rw [e] at hi; cases hi
        | some z => rw [e] at hi; exact ⟨z, rfl, (Option.some.inj hi).symm⟩
      refine ⟨.int k, rfl, k, 40014, rfl, rfl, .inl ⟨by omega, by omega⟩, .int z, rfl, z, 2147483563, rfl, rfl, (show (0 : Int) < 2147483563 by decide), _, _, rfl, rfl, _, _, rfl, rfl, _, 2147483563, rfl, rfl, (show (0 : Int) < 2147483563 by decide), ?_⟩
      exact ⟨_, _, rfl, Int.emod_nonneg _ (by decide), Int.emod_lt_of_pos _ (by decide), rfl⟩
    · rintro σ H' ⟨k, y', rfl, k0, k1, rfl⟩
      refine ⟨.ref b, rfl, 63, rfl, b, _, rfl, s2.seq hS, fun p3 np3 => ?_⟩
      rw [cut63 hl]
      refine ⟨p3, _, rfl, .inl (SqL.of upd_same), fun l nl => ?_⟩
      refine ⟨.int k, rfl, sz (by show 4 ≤ 100000; decide), fun r nr => ?_⟩
      have s3 := s2.trans (Same.new (o := .lst (ns.map V.int)) np3)
      have s4 := s3.trans (Same.new (o := .lst (ns.map V.int)) nl)
      have s5 := s4.trans (Same.new (o := .lst [.ref l, .int 0, .int 0, .int k]) nr)
      refine w _ r s5 (s4.free nr) ⟨l, ns, 0, 0, k, upd_same, ?_, by omega, by omega, by omega, k0, k1⟩
      rw [upd_ne (fun z => by rw [z] at nl; rw [← z, upd_same] at nr; cases nr)]
      exact upd_same
end
section
variable {P : Program} {w : World} {K : PySem.W.Frag} {mg : Str → Option Value} {base : Heap} {a : Ad}
def sp_l_draw (_ : PySem.W.Frag) : Sp := fun vs H Q _ => ∃ (r : Addr) (q : Int), vs = [.ref r, .int q] ∧ Rg H r ∧ 0 < q ∧ q < 2 ^ 64 ∧ ∀ v H', 0 ≤ v → v < q → Kp r H H' → Rg H' r → Q (.int v) H'
theorem cell_at {ns : List Int} {i : Int} (h0 : 0 ≤ i) (h1 : i < (ns.length : Int)) : ∃ z, atI (ns.map V.int) i = some (V.int z) := by
  have e : i = ((i.toNat : Nat) : Int) := by omega
  have l : i.toNat < ns.length := by omega
  refine ⟨ns[i.toNat], ?_⟩
  have h : atI (ns.map V.int) ((i.toNat : Nat) : Int) = some (V.int ns[i.toNat]) := atI_nat (by simp [l])
  rw [← e] at h
  exact h
theorem div_ok {q : Int} (h : 0 < q) (h' : q < 2 ^ 64) (i : Int) : CDivW i q := wide_div (b := 64) h (by omega) (by decide) (by decide)

theorem ok_l_draw (T : Txt K mg a) : FnOk P w K mg base CX0 1 a.f_l_draw a.fd_l_draw ["_law_rng", "_law_quantity"] (sp_l_draw K) := by
  refine T.F_l_draw.ok sc_l_draw (fun vs H Q E h => ?_) (fun cdv A outer s H vs Q E hr h => ?_)
  · obtain ⟨r, q, rfl, _⟩ := h
    rfl
  · obtain ⟨r, q, rfl, ⟨c, ns, i, x, k, R⟩, q0, q1, w⟩ := h
    refine ⟨_, (C8.pss_cut (ps_if (PW.pt (pw_and (pt_cmpR op_eq (pe_ix ix_list (pv 0) pe_int (fun _ _ => rfl)) pe_int (nomark _)) (pw_and1 (pt_cmpR op_lt (pe_ix ix_list (pv 0) pe_int (fun _ _ => rfl)) (pe_callB call_len (by rfl) T.n_len (by decide +kernel) (pa_cons (pe_ix ix_list (pv 0) pe_int (fun _ _ => rfl)) pa_nil)) (nomark _))))) (pss_cons (ps_set (i := 2) sc_l_draw.nd rfl (by first | exact Or.inl rfl | exact Or.inr rfl) (pe_ix ix_list (pe_ix ix_list (pv 0) pe_int (fun _ _ => rfl)) (pe_ix ix_list (pv 0) pe_int (fun _ _ => rfl)) (fun _ _ => rfl)))
          (pss_cons (ps_asg (pe_op op_add (pe_ix ix_list (pv 0) pe_int (fun _ _ => rfl)) pe_int) (pg_sub (pv 0) pe_int set_list))
          (pss_one (ps_if (pt_cmpR op_ge (pv 2) (pe_op op_pow pe_int pe_int) (nomark _)) (pss_one (ps_asg (pv 2) (pg_sub (pv 0) pe_int set_list))) (pss_one (ps_asg (pe_op op_mod (pe_op op_add (pe_op op_add (pe_op op_mul (pe_ix ix_list (pv 0) pe_int (fun _ _ => rfl)) pe_int) (pe_op op_mul (pe_op op_mod (pv 2) pe_int) pe_int)) (pe_ix ix_list (pv 0) pe_int (fun _ _ => rfl))) pe_int) (pg_sub (pv 0) pe_int set_list))))))) pss_nil)
          (pss_cons (ps_if (pt_cmpR op_gt (pe_ix ix_list (pv 0) pe_int (fun _ _ => rfl)) pe_int (nomark _)) (pss_cons (ps_set (i := 3) sc_l_draw.nd rfl (by first | exact Or.inl rfl | exact Or.inr rfl) (pe_op op_mod (pe_ix ix_list (pv 0) pe_int (fun _ _ => rfl)) (pv 1)))
          (pss_cons (ps_asg (pe_op op_fdivW (pe_ix ix_list (pv 0) pe_int (fun _ _ => rfl)) (pv 1)) (pg_sub (pv 0) pe_int set_list))
          (pss_one (ps_ret (pv 3))))) pss_nil)
          (pss_cons (ps_set (i := 4) sc_l_draw.nd rfl (by first | exact Or.inl rfl | exact Or.inr rfl) (pe_ix ix_list (pv 0) pe_int (fun _ _ => rfl)))
          (pss_cons (ps_asg (pe_op op_mod (pe_op op_add (pe_op op_add (pe_op op_mul (pv 4) (pv 4)) (pe_op op_mul (pv 4) pe_int)) pe_int) pe_int) (pg_sub (pv 0) pe_int set_list))
          (pss_one (ps_ret (pe_op op_mod (pe_op op_add (pe_op op_fdivW (pe_ix ix_list (pv 0) pe_int (fun _ _ => rfl)) pe_int) (pe_op op_mul (pe_op op_mod (pe_ix ix_list (pv 0) pe_int (fun _ _ => rfl)) pe_int) pe_int)) (pv 1)))))))), ?_⟩
    have hR := R.hr
    have hC := R.hc
    have hk0 := R.k0
    have hk1 := R.k1
    have hi0 := R.i0
    refine ⟨fun σ H1 => ∃ y i1 x1 k1, σ = [some (.ref r), some (.int q), y, none, none] ∧ RgS H1 r c ns i1 x1 k1 ∧ Kp r H H1, ?_, ?_⟩
    · refine ⟨.ref r, rfl, r, _, 2, _, rfl, rfl, SqL.of hR, rfl, rfl, _, rfl, ite2 (fun e => ?_) (fun e => ?_)⟩
      · refine ⟨.ref r, rfl, r, _, 1, _, rfl, rfl, SqL.of hR, rfl, .ref r, rfl, r, _, 0, _, rfl, rfl, SqL.of hR, rfl, .ref c, ns.length, rfl, .inl ⟨_, SqL.of hC, by simp⟩, i, _, rfl, rfl, _, rfl, ite2 (fun e1 => ?_) (fun e1 => ?_)⟩
        · have l1 : i < (ns.length : Int) := of_decide_eq_true e1
          obtain ⟨z, hz⟩ := cell_at hi0 l1
          have hx : x = 0 := V.int.inj (of_decide_eq_true e)
          refine ⟨.ref r, rfl, r, _, 0, _, rfl, rfl, SqL.of hR, rfl, .ref r, rfl, r, _, 1, _, rfl, rfl, SqL.of hR, rfl, c, _, i, .int z, rfl, rfl, SqL.of hC, hz, ?_⟩
          refine ⟨.ref r, rfl, r, _, 1, _, rfl, rfl, SqL.of hR, rfl, i, 1, rfl, rfl, .ref r, rfl, r, _, 1, 1, rfl, rfl, hR, rfl, ?_⟩
          have R1 := R.set (i' := i + 1) (x' := x) (k' := k) (by omega) (by omega) R.x0 R.k0 R.k1
          refine ⟨.int z, rfl, 10, 18, rfl, rfl, ⟨by decide, by decide, by decide⟩, z, _, rfl, rfl, _, rfl, ite2 (fun e2 => ?_) (fun e2 => ?_)⟩
          · have hz2 : (10 : Int) ^ 18 ≤ z := of_decide_eq_true e2
            have R2 := R.set (i' := i + 1) (x' := z) (k' := k) (by omega) (by omega) (by omega) R.k0 R.k1
            refine ⟨.int z, rfl, .ref r, rfl, r, _, 2, 2, rfl, rfl, R1.hr, rfl, ?_⟩
            refine ⟨_, i + 1, z, k, rfl, ?_, ?_⟩
            · rw [upd_upd]; exact R2
            · rw [upd_upd]; exact Kp.at
          · refine ⟨.ref r, rfl, r, _, 3, _, rfl, rfl, SqL.of R1.hr, rfl, k, 40692, rfl, rfl, .inl ⟨by omega, by omega⟩, .int z, rfl, z, 2147483563, rfl, rfl, (show (0 : Int) < 2147483563 by decide), _, 71, rfl, rfl, .inr ⟨by decide, by decide⟩, _, _, rfl, rfl,
              .ref r, rfl, r, _, 1, _, rfl, rfl, SqL.of R1.hr, rfl, _, _, rfl, rfl, _, 2147483563, rfl, rfl, (show (0 : Int) < 2147483563 by decide), .ref r, rfl, r, _, 3, 3, rfl, rfl, R1.hr, rfl, ?_⟩
            have R2 := R.set (i' := i + 1) (x' := x) (k' := (k * 40692 + z % 2147483563 * 71 + (i + 1)) % 2147483563) (by omega) (by omega) (by omega) (by omega) (by omega)
            refine ⟨_, i + 1, x, (k * 40692 + z % 2147483563 * 71 + (i + 1)) % 2147483563, rfl, ?_, ?_⟩
            · rw [upd_upd]; exact R2
            · rw [upd_upd]; exact Kp.at
        · exact ⟨none, i, x, k, rfl, R, Kp.refl⟩
      · exact iteF ⟨none, i, x, k, rfl, R, Kp.refl⟩
    · rintro σ H1 ⟨y, i1, x1, k1, rfl, R1, kp⟩
      have hR1 := R1.hr
      have hk0 := R1.k0
      have hk1 := R1.k1
      have hx0 := R1.x0
      refine ⟨.ref r, rfl, r, _, 2, _, rfl, rfl, SqL.of hR1, rfl, x1, 0, rfl, rfl, _, rfl, ite2 (fun e => ?_) (fun e => ?_)⟩
      · refine ⟨.ref r, rfl, r, _, 2, _, rfl, rfl, SqL.of hR1, rfl, .int q, rfl, x1, q, rfl, rfl, q0, ?_⟩
        refine ⟨.ref r, rfl, r, _, 2, _, rfl, rfl, SqL.of hR1, rfl, .int q, rfl, x1, q, rfl, rfl, div_ok q0 q1 x1, .ref r, rfl, r, _, 2, 2, rfl, rfl, hR1, rfl, ?_⟩
        refine ⟨_, rfl, w _ _ (Int.emod_nonneg _ (by omega)) (Int.emod_lt_of_pos _ q0) (kp.trans Kp.at) ⟨c, ns, i1, x1 / q, k1, R1.set R1.i0 R1.i1 (Int.ediv_nonneg hx0 (by omega)) hk0 hk1⟩⟩
      · refine ⟨.ref r, rfl, r, _, 3, _, rfl, rfl, SqL.of hR1, rfl, ?_⟩
        refine ⟨.int k1, rfl, .int k1, rfl, k1, k1, rfl, rfl, .inl ⟨by omega, by omega⟩, .int k1, rfl, k1, 39373, rfl, rfl, .inl ⟨by omega, by omega⟩, _, _, rfl, rfl, _, _, rfl, rfl, _, 2147483563, rfl, rfl, (show (0 : Int) < 2147483563 by decide), .ref r, rfl, r, _, 3, 3, rfl, rfl, hR1, rfl, ?_⟩
        have m0 : 0 ≤ (k1 * k1 + k1 * 39373 + 80021) % 2147483563 := Int.emod_nonneg _ (by decide)
        have m1 : (k1 * k1 + k1 * 39373 + 80021) % 2147483563 < 2147483563 := Int.emod_lt_of_pos _ (by decide)
        have R2 := R1.set (k' := (k1 * k1 + k1 * 39373 + 80021) % 2147483563) R1.i0 R1.i1 R1.x0 m0 m1
        refine ⟨.ref r, rfl, r, _, 3, _, rfl, rfl, SqL.of R2.hr, rfl, _, 61, rfl, rfl, ⟨by decide, by decide⟩, .ref r, rfl, r, _, 3, _, rfl, rfl, SqL.of R2.hr, rfl, _, 8123, rfl, rfl, (show (0 : Int) < 8123 by decide), _, 223, rfl, rfl, .inr ⟨by decide, by decide⟩, _, _, rfl, rfl, .int q, rfl, _, q, rfl, rfl, q0, ?_⟩
        exact w _ _ (Int.emod_nonneg _ (by omega)) (Int.emod_lt_of_pos _ q0) (kp.trans Kp.at) ⟨c, ns, i1, x1, _, R2⟩
end
section
variable {P : Program} {w : World} {K : PySem.W.Frag} {mg : Str → Option Value} {base : Heap} {a : Ad}
/-- what may be chosen from: a list, a tuple, a text -/
def Pick (K : PySem.W.Frag) (H : Hp) (r : Addr) (v : V) (items : List V) : Prop := (∃ p, v = .ref p ∧ p ≠ r ∧ (SqL K H p items ∨ SqT K H p items)) ∨ ∃ z : Str, v = .str z ∧ items = z.cps.toList.map fun c => V.str ⟨#[c]⟩
def sp_l_choice (K : PySem.W.Frag) : Sp := fun vs H Q _ => ∃ (r : Addr) (v : V) (items : List V), vs = [.ref r, v] ∧ Rg H r ∧ Pick K H r v items ∧ 0 < items.length ∧ items.length ≤ 100000 ∧ ∀ x ∈ items, ∀ H', Kp r H H' → Rg H' r → Q x H'
theorem at_int {α : Type} {xs : List α} {i : Int} (h0 : 0 ≤ i) (h1 : i < (xs.length : Int)) : ∃ x, atI xs i = some x ∧ x ∈ xs := by
  have e : i = ((i.toNat : Nat) : Int) := by omega
  have l : i.toNat < xs.length := by omega
  refine ⟨xs[i.toNat], ?_, List.getElem_mem l⟩
  have h : atI xs ((i.toNat : Nat) : Int) = some xs[i.toNat] := atI_nat (by simp [l])
  rw [← e] at h
  exact h

theorem ok_l_choice (T : Txt K mg a) : FnOk P w K mg base CX0 2 a.f_l_choice a.fd_l_choice ["_law_rng", "_law_some"] (sp_l_choice K) := by
  have G_l_draw := ok_l_draw (P := P) (w := w) (base := base) T
  refine T.F_l_choice.ok sc_l_choice (fun vs H Q E h => ?_) (fun cdv A outer s H vs Q E hr h => ?_)
  · obtain ⟨r, v, items, rfl, _⟩ := h
    rfl
  · obtain ⟨r, v, items, rfl, R, pk, l0, l1, w⟩ := h
    refine ⟨_, (pss_one (ps_ret (pe_ix ix_seq (pv 1) (pe_call G_l_draw (hr.mono (by first | decide | omega)) (by rfl) T.g_l_draw T.F_l_draw.kp T.b_l_draw .nil pass0 (pa_cons (pv 0) (pa_cons (pe_callB call_len (by rfl) T.n_len (by decide +kernel) (pa_cons (pv 1) pa_nil)) pa_nil))) (fun _ _ => rfl)))), ?_⟩
    have n0 : (0 : Int) < (items.length : Int) := by omega
    have n1 : (items.length : Int) < 2 ^ 64 := by omega
    rcases pk with ⟨p, rfl, np, hp⟩ | ⟨z, rfl, hz⟩
    · refine ⟨.ref p, rfl, .ref r, rfl, .ref p, rfl, .ref p, items.length, rfl, ?_, r, _, rfl, R, n0, n1, fun j H' j0 j1 kp R' => ?_⟩
      · rcases hp with hp | hp
        · exact .inl ⟨_, hp, rfl⟩
        · exact .inr ⟨_, hp, rfl⟩
      · obtain ⟨x, hx, hm⟩ := at_int (xs := items) j0 j1
        rcases hp with hp | hp
        · exact .inl ⟨p, items, j, x, rfl, rfl, kp.L np hp, hx, w x hm H' kp R'⟩
        · exact .inr (.inl ⟨p, items, j, x, rfl, rfl, kp.T np hp, hx, w x hm H' kp R'⟩)
    · have hl : z.cps.toList.length = items.length := by rw [hz]; simp
      have hl2 : z.length = items.length := by rw [← hl]; simp [Str.length]
      refine ⟨.str z, rfl, .ref r, rfl, .str z, rfl, .str z, items.length, rfl, ⟨by rw [hl2]; exact sz l1, hl2.symm⟩, r, _, rfl, R, n0, n1, fun j H' j0 j1 kp R' => ?_⟩
      obtain ⟨c, hx, hm⟩ := at_int (xs := z.cps.toList) j0 (by rw [hl]; exact j1)
      exact .inr (.inr ⟨z, j, c, rfl, rfl, by rw [hl2]; exact sz l1, hx, w _ (by rw [hz]; exact List.mem_map.mpr ⟨c, hm, rfl⟩) H' kp R'⟩)
end
section
variable {P : Program} {w : World} {K : PySem.W.Frag} {mg : Str → Option Value} {base : Heap} {a : Ad}
/-- equal data of depth below n: True -/
def spEq (K : PySem.W.Frag) : Nat → Sp
  | 0 => fun _ _ _ _ => False
  | n + 1 => fun vs H Q _ => ∃ x y, vs = [x, y] ∧ Eqd K H n x y ∧ ∀ H', Same H H' → Q (.bl true) H'
def sp_l_equal (K : PySem.W.Frag) : Sp := spEq K 21

theorem ok_l_equal_n (T : Txt K mg a) : ∀ n, FnOk P w K mg base CX0 n a.f_l_equal a.fd_l_equal ["_law_result", "_law_expected"] (spEq K n)
  | 0 => fn_false
  | n + 1 => by
    have G_l_equal := ok_l_equal_n T n
    refine T.F_l_equal.ok sc_l_equal (fun vs H Q E h => ?_) (fun cdv A outer s H vs Q E hr h => ?_)
    · obtain ⟨x, y, rfl, _⟩ := h
      rfl
    obtain ⟨x, y, rfl, hE, w⟩ := h
    refine ⟨_, (pss_cons (ps_if (pt_cmpR op_isN (pv 1) pe_non (nomark _)) (pss_one (ps_ret (pe_cmpR op_isN (pv 0) pe_non (nomark _)))) pss_nil)
      (pss_cons (ps_if (PW.pt (pw_or (pt_val (pe_callB call_isi (by rfl) T.n_isinstance (by decide +kernel) (pa_cons (pv 1) (pa_cons (pe_bltn (v := .ty "list") (by rfl) T.n_list (by decide +kernel) rfl) pa_nil)))) (pw_or1 (pt_val (pe_callB call_isi (by rfl) T.n_isinstance (by decide +kernel) (pa_cons (pv 1) (pa_cons (pe_bltn (v := .ty "tuple") (by rfl) T.n_tuple (by decide +kernel) rfl) pa_nil))))))) (pss_cons (ps_if (PW.pt (pw_or (pt_cmpR op_ne (pe_callB call_isi (by rfl) T.n_isinstance (by decide +kernel) (pa_cons (pv 0) (pa_cons (pe_bltn (v := .ty "list") (by rfl) T.n_list (by decide +kernel) rfl) pa_nil))) (pe_callB call_isi (by rfl) T.n_isinstance (by decide +kernel) (pa_cons (pv 1) (pa_cons (pe_bltn (v := .ty "list") (by rfl) T.n_list (by decide +kernel) rfl) pa_nil))) (nomark _)) (pw_or1 (pt_cmpR op_ne (pe_callB call_isi (by rfl) T.n_isinstance (by decide +kernel) (pa_cons (pv 0) (pa_cons (pe_bltn (v := .ty "tuple") (by rfl) T.n_tuple (by decide +kernel) rfl) pa_nil))) (pe_callB call_isi (by rfl) T.n_isinstance (by decide +kernel) (pa_cons (pv 1) (pa_cons (pe_bltn (v := .ty "tuple") (by rfl) T.n_tuple (by decide +kernel) rfl) pa_nil))) (nomark _))))) (pss_one (ps_ret pe_bl)) pss_nil)
      (pss_one (ps_ret (pe_and (pe_cmpR op_eq (pe_callB call_len (by rfl) T.n_len (by decide +kernel) (pa_cons (pv 0) pa_nil)) (pe_callB call_len (by rfl) T.n_len (by decide +kernel) (pa_cons (pv 1) pa_nil)) (nomark _)) (pe_one (pe_callB (cr_all rfl) (by rfl) T.n_all (by decide +kernel) (pa_cons (pe_lc (own := [("_law_one", 2), ("_law_other", 3)]) (g := gTup K 2 (gCons (gName 2) (gCons (gName 3) gNil))) rfl sc_l_equal.nd (RZ.pi_zipA (by rfl) T.n_zip (pa_cons (pv 0) (pa_cons (pv 1) pa_nil))) (blkOk_by (own := [("_law_one", 2), ("_law_other", 3)]) (N := ["_law_result", "_law_expected", "_law_one", "_law_other"]) (sc := defScope s_l_equal) (by decide +kernel)) (fun _ _ _ _ _ => (pg_tup rfl (pgs_cons (pg_name (i := 2) sc_l_equal.nd rfl (Or.inl rfl)) (pgs_cons (pg_name (i := 3) sc_l_equal.nd rfl (Or.inl rfl)) pgs_nil)))) (fun _ _ _ _ _ => pts_nil) (fun _ _ _ _ _ => (pe_call G_l_equal (hr.mono (by first | decide | omega)) (by rfl) T.g_l_equal T.F_l_equal.kp T.b_l_equal .nil pass0 (pa_cons (pv 2) (pa_cons (pv 3) pa_nil))))) pa_nil))))))) pss_nil)
      (pss_cons (ps_if (PW.pt (pw_or (pt_cmpR op_ne (pe_callB call_isi (by rfl) T.n_isinstance (by decide +kernel) (pa_cons (pv 1) (pa_cons (pe_bltn (v := .ty "bool") (by rfl) T.n_bool (by decide +kernel) rfl) pa_nil))) (pe_callB call_isi (by rfl) T.n_isinstance (by decide +kernel) (pa_cons (pv 0) (pa_cons (pe_bltn (v := .ty "bool") (by rfl) T.n_bool (by decide +kernel) rfl) pa_nil))) (nomark _)) (pw_or1 (pt_cmpR op_ne (pe_callB call_isi (by rfl) T.n_isinstance (by decide +kernel) (pa_cons (pv 1) (pa_cons (pe_bltn (v := .ty "int") (by rfl) T.n_int (by decide +kernel) rfl) pa_nil))) (pe_callB call_isi (by rfl) T.n_isinstance (by decide +kernel) (pa_cons (pv 0) (pa_cons (pe_bltn (v := .ty "int") (by rfl) T.n_int (by decide +kernel) rfl) pa_nil))) (nomark _))))) (pss_one (ps_ret pe_bl)) pss_nil)
      (pss_one (ps_ret (pe_and (pe_cmpR op_eq (pe_callB call_isi (by rfl) T.n_isinstance (by decide +kernel) (pa_cons (pv 0) (pa_cons (pe_bltn (v := .ty "str") (by rfl) T.n_str (by decide +kernel) rfl) pa_nil))) (pe_callB call_isi (by rfl) T.n_isinstance (by decide +kernel) (pa_cons (pv 1) (pa_cons (pe_bltn (v := .ty "str") (by rfl) T.n_str (by decide +kernel) rfl) pa_nil))) (nomark _)) (pe_one (pe_cmpR op_eq (pv 0) (pv 1) (nomark _))))))))), ?_⟩
    by_cases hq : x = y ∧ atom x = true
    · obtain ⟨rfl, hat⟩ := hq
      by_cases hn : x = .non
      · subst hn
        exact ⟨.non, rfl, rfl, _, rfl, ifT (decide_eq_true rfl) ⟨.non, rfl, rfl, by rw [decide_eq_true rfl]; exact w H (Same.refl H)⟩⟩
      · obtain ⟨t, b1, b2, b3, ty, hl, ht, bb, bi, bs, sc⟩ : ∃ (t : String) (b1 b2 b3 : Bool), TyX K H x (.type t) ∧ kitB t "list" = some false ∧ kitB t "tuple" = some false ∧ kitB t "bool" = some b1 ∧ kitB t "int" = some b2 ∧ kitB t "str" = some b3 ∧ scal x x = true := by
          cases x with
          | non => exact absurd rfl hn
          | bl b => exact ⟨"bool", true, true, false, .base (.bl b), by decide +kernel, by decide +kernel, by decide +kernel, by decide +kernel, by decide +kernel, rfl⟩
          | int i => exact ⟨"int", false, true, false, .base (.int i), by decide +kernel, by decide +kernel, by decide +kernel, by decide +kernel, by decide +kernel, rfl⟩
          | str z => exact ⟨"str", false, false, true, .base (.str z), by decide +kernel, by decide +kernel, by decide +kernel, by decide +kernel, by decide +kernel, rfl⟩
          | _ => cases hat
        refine ⟨x, rfl, rfl, _, rfl, ifF (decide_eq_false hn) ?_⟩
        refine ⟨x, rfl, _, _, _, _, _, rfl, .ty _, ty, kit_ty hl, false, rfl, iteF ⟨x, rfl, _, _, _, _, _, rfl, .ty _, ty, kit_ty ht, false, rfl, iteF ?_⟩⟩
        refine ⟨x, rfl, _, _, _, _, _, rfl, .ty _, ty, kit_ty bb, x, rfl, _, _, _, _, _, rfl, .ty _, ty, kit_ty bb, rfl, _, rfl, iteNS rfl ⟨x, rfl, _, _, _, _, _, rfl, .ty _, ty, kit_ty bi, x, rfl, _, _, _, _, _, rfl, .ty _, ty, kit_ty bi, rfl, _, rfl, iteNS rfl ?_⟩⟩
        refine ⟨x, rfl, _, _, _, _, _, rfl, .ty _, ty, kit_ty bs, x, rfl, _, _, _, _, _, rfl, .ty _, ty, kit_ty bs, rfl, _, rfl, ifT (decide_eq_true rfl) ⟨x, rfl, x, rfl, sc, ?_⟩⟩
        rw [decide_eq_true rfl]
        exact w H (Same.refl H)
    cases n with
    | zero => exact absurd hE hq
    | succ n =>
      rcases hE with hE | ⟨p, q, xs, ys, rfl, rfl, hS, hl, hl2, hk⟩
      · exact absurd hE hq
      have nn : ∀ q : Addr, decide (V.ref q = V.non) = false := fun q => decide_eq_false (fun z => nomatch z)
      refine ⟨.ref q, rfl, rfl, _, rfl, ifF (nn q) ?_⟩
      -- one turn of the comprehension, for lists and for tuples alike
      have turn : ∀ (D : Addr) (H1 : Hp) (i : Nat) (u v : V) (N : Hp → Prop), H D = none → Same H H1 → H1 D = some (.lst ((List.replicate i true).map V.bl)) → i < xs.length → xs[i]? = some u → ys[i]? = some v →
          (∀ H2, Same H H2 → H2 D = some (.lst ((List.replicate (i + 1) true).map V.bl)) → N H2) → spEq K (n + 1) [u, v] H1 (fun y H4 => ∃ acc, H4 D = some (.lst acc) ∧ acc.length < sizeLine ∧ N (upd H4 D (.lst (acc ++ [y])))) E0 := by
        intro D H1 i u v N nD s1 hD hi hu hv hN
        refine ⟨u, v, rfl, (hk i u v hu hv).same s1, fun H4 s4 => ⟨_, s4 _ _ hD, by rw [List.length_map, List.length_replicate]; exact szl (by omega), hN _ (fun b o e => ?_) ?_⟩⟩
        · rw [upd_ne (ne_of_none e nD)]
          exact s4 _ _ (s1 _ _ e)
        · rw [upd_same, List.replicate_succ', List.map_append]
          rfl
      have fin : ∀ (D : Addr) (H1 : Hp), Same H H1 → H1 D = some (.lst ((List.replicate xs.length true).map V.bl)) → rAll K [V.ref D] H1 Q := fun D H1 s1 hD =>
        ⟨D, List.replicate xs.length true, rfl, SqL.of hD, by
          rw [show (List.replicate xs.length true).all id = true by simp]
          exact w H1 s1⟩
      rcases hS with ⟨ha, hb⟩ | ⟨ha, hb⟩
      · refine ⟨.ref q, rfl, _, _, _, _, true, rfl, .ty _, tyL hb, kit_ty (by decide +kernel), true, rfl, iteT (iteT ?_)⟩
        refine ⟨.ref p, rfl, _, _, _, _, true, rfl, .ty _, tyL ha, kit_ty (by decide +kernel), .ref q, rfl, _, _, _, _, true, rfl, .ty _, tyL hb, kit_ty (by decide +kernel), rfl, _, rfl, iteNS rfl ?_⟩
        refine ⟨.ref p, rfl, _, _, _, _, false, rfl, .ty _, tyL ha, kit_ty (by decide +kernel), .ref q, rfl, _, _, _, _, false, rfl, .ty _, tyL hb, kit_ty (by decide +kernel), rfl, _, rfl, iteNS rfl ?_⟩
        refine ⟨.ref p, rfl, .ref p, xs.length, rfl, .inl ⟨_, ha, rfl⟩, .ref q, rfl, .ref q, ys.length, rfl, .inl ⟨_, hb, rfl⟩, rfl, _, rfl, ifT (decide_eq_true (by rw [hl])) ?_⟩
        refine ⟨.ref p, rfl, .ref q, rfl, p, q, xs, ys, rfl, .inl ⟨ha, hb, fun D nD => ?_⟩⟩
        refine ⟨fun i m H1 => i + m = xs.length ∧ Same H H1 ∧ H1 D = some (.lst ((List.replicate i true).map V.bl)), ⟨xs.length, by omega, Same.new nD, upd_same⟩, fun i m H1 hW => ?_⟩
        obtain ⟨em, s1, hD⟩ := hW
        by_cases hi : i < xs.length
        · refine .inr ⟨⟨xs, ys, xs[i], ys[i]'(by omega), s1.seq ha, s1.seq hb, List.getElem?_eq_getElem hi, List.getElem?_eq_getElem (by omega)⟩, fun H2 => Same H H2 ∧ H2 D = some (.lst ((List.replicate (i + 1) true).map V.bl)), fun H2 hN => ⟨m - 1, by omega, by omega, hN.1, hN.2⟩, fun v H2 hy => ?_⟩
          obtain ⟨tt, u1, u2, rfl, nT, rfl, f1, f2⟩ := hy
          refine ⟨tt, [u1, u2], rfl, SqT.of upd_same, rfl, u1, [u2], rfl, u2, [], rfl, rfl, rfl, ?_⟩
          refine tYes_if ?_
          refine ⟨u1, rfl, u2, rfl, turn D (upd H1 tt (.tup [u1, u2])) i u1 u2 (fun H2 => Same H H2 ∧ H2 D = some (.lst ((List.replicate (i + 1) true).map V.bl))) nD (s1.trans (Same.new nT)) ?_ hi (f1 _ (s1.seq ha)) (f2 _ (s1.seq hb)) fun H2 a b => ⟨a, b⟩⟩
          rw [upd_ne (ne_of_none hD nT)]
          exact hD
        · have ei : i = xs.length := by omega
          subst ei
          exact .inl ⟨⟨xs, ys, s1.seq ha, s1.seq hb, .inl (Nat.le_refl _)⟩, fin D H1 s1 hD⟩
      · refine ⟨.ref q, rfl, _, _, _, _, false, rfl, .ty _, tyT hb, kit_ty (by decide +kernel), false, rfl, iteF ⟨.ref q, rfl, _, _, _, _, true, rfl, .ty _, tyT hb, kit_ty (by decide +kernel), true, rfl, iteT ?_⟩⟩
        refine ⟨.ref p, rfl, _, _, _, _, false, rfl, .ty _, tyT ha, kit_ty (by decide +kernel), .ref q, rfl, _, _, _, _, false, rfl, .ty _, tyT hb, kit_ty (by decide +kernel), rfl, _, rfl, iteNS rfl ?_⟩
        refine ⟨.ref p, rfl, _, _, _, _, true, rfl, .ty _, tyT ha, kit_ty (by decide +kernel), .ref q, rfl, _, _, _, _, true, rfl, .ty _, tyT hb, kit_ty (by decide +kernel), rfl, _, rfl, iteNS rfl ?_⟩
        refine ⟨.ref p, rfl, .ref p, xs.length, rfl, .inr ⟨_, ha, rfl⟩, .ref q, rfl, .ref q, ys.length, rfl, .inr ⟨_, hb, rfl⟩, rfl, _, rfl, ifT (decide_eq_true (by rw [hl])) ?_⟩
        refine ⟨.ref p, rfl, .ref q, rfl, p, q, xs, ys, rfl, .inr ⟨ha, hb, fun D nD => ?_⟩⟩
        refine ⟨fun i m H1 => i + m = xs.length ∧ Same H H1 ∧ H1 D = some (.lst ((List.replicate i true).map V.bl)), ⟨xs.length, by omega, Same.new nD, upd_same⟩, fun i m H1 hW => ?_⟩
        obtain ⟨em, s1, hD⟩ := hW
        by_cases hi : i < xs.length
        · refine .inr ⟨⟨xs, ys, xs[i], ys[i]'(by omega), Same.T s1 ha, Same.T s1 hb, List.getElem?_eq_getElem hi, List.getElem?_eq_getElem (by omega)⟩, fun H2 => Same H H2 ∧ H2 D = some (.lst ((List.replicate (i + 1) true).map V.bl)), fun H2 hN => ⟨m - 1, by omega, by omega, hN.1, hN.2⟩, fun v H2 hy => ?_⟩
          obtain ⟨tt, u1, u2, rfl, nT, rfl, f1, f2⟩ := hy
          refine ⟨tt, [u1, u2], rfl, SqT.of upd_same, rfl, u1, [u2], rfl, u2, [], rfl, rfl, rfl, ?_⟩
          refine tYes_if ?_
          refine ⟨u1, rfl, u2, rfl, turn D (upd H1 tt (.tup [u1, u2])) i u1 u2 (fun H2 => Same H H2 ∧ H2 D = some (.lst ((List.replicate (i + 1) true).map V.bl))) nD (s1.trans (Same.new nT)) ?_ hi (f1 _ (Same.T s1 ha)) (f2 _ (Same.T s1 hb)) fun H2 a b => ⟨a, b⟩⟩
          rw [upd_ne (ne_of_none hD nT)]
          exact hD
        · have ei : i = xs.length := by omega
          subst ei
          exact .inl ⟨⟨xs, ys, Same.T s1 ha, Same.T s1 hb, .inl (Nat.le_refl _)⟩, fin D H1 s1 hD⟩
theorem ok_l_equal (T : Txt K mg a) : FnOk P w K mg base CX0 21 a.f_l_equal a.fd_l_equal ["_law_result", "_law_expected"] (sp_l_equal K) := ok_l_equal_n T 21
end
section
variable {P : Program} {w : World} {K : PySem.W.Frag} {mg : Str → Option Value} {base : Heap} {a : Ad}
def sp_l_reduce (_ : PySem.W.Frag) : Sp := fun vs H Q _ => ∃ (n d : Int), vs = [.int n, .int d] ∧ d ≠ 0 ∧ d.natAbs < 2 ^ 8000 ∧ ∀ p, H p = none → Q (.ref p) (upd H p (.tup [.int (red n d).1, .int (red n d).2]))

theorem ok_l_reduce (T : Txt K mg a) : FnOk P w K mg base CX0 1 a.f_l_reduce a.fd_l_reduce ["_law_num", "_law_den"] (sp_l_reduce K) := by
  refine T.F_l_reduce.ok sc_l_reduce (fun vs H Q E h => ?_) (fun cdv A outer s H vs Q E hr h => ?_)
  · obtain ⟨n, d, rfl, _⟩ := h
    rfl
  · obtain ⟨n, d, rfl, hd, dB, w⟩ := h
    refine ⟨_, (pss_cons (ps_par (i := 2) (j := 3) (by rfl) sc_l_reduce.nd rfl rfl (by decide) rfl rfl (pa_cons (pe_callB call_abs (by rfl) T.n_abs (by decide +kernel) (pa_cons (pv 0) pa_nil)) (pa_cons (pe_callB call_abs (by rfl) T.n_abs (by decide +kernel) (pa_cons (pv 1) pa_nil)) pa_nil)) (by rfl))
          (pss_cons (ps_while PassesOwn.never (pt_cmpR op_ne (pv 3) pe_int (nomark _)) (pss_one (ps_par (i := 2) (j := 3) (by rfl) sc_l_reduce.nd rfl rfl (by decide) rfl rfl (pa_cons (pv 3) (pa_cons (pe_op op_mod (pv 2) (pv 3)) pa_nil)) (by rfl))))
          (pss_cons (ps_set (i := 4) sc_l_reduce.nd rfl (by first | exact Or.inl rfl | exact Or.inr rfl) (pe_ifExp (pt_cmpR op_gt (pv 1) pe_int (nomark _)) pe_int (pe_un un_neg pe_int)))
          (pss_one (ps_ret (pe_tup (pa_cons (pe_op op_fdivW (pe_op op_mul (pv 4) (pv 0)) (pv 2)) (pa_cons (pe_op op_fdivW (pe_op op_mul (pv 4) (pv 1)) (pv 2)) pa_nil)))))))), ?_⟩
    refine ⟨.int n, rfl, n, rfl, .int d, rfl, d, rfl, _, _, rfl, ?_⟩
    refine ⟨fun m σ H' => ∃ x y : Int, σ = [some (.int n), some (.int d), some (.int x), some (.int y), none] ∧ 0 ≤ x ∧ 0 ≤ y ∧ Int.gcd x y = Int.gcd n d ∧ m = y.toNat ∧ H' = H, ⟨_, _, _, rfl, ?_, ?_, ?_, rfl, rfl⟩, ?_⟩
    · split <;> omega
    · split <;> omega
    · rw [Int.gcd_eq_natAbs_gcd_natAbs, Int.gcd_eq_natAbs_gcd_natAbs]
      congr 1
      · split <;> omega
      · split <;> omega
    rintro m σ H' ⟨x, y, rfl, x0, y0, hg, rfl, hH⟩
    obtain rfl : H = H' := hH.symm
    refine ⟨.int y, rfl, rfl, _, rfl, ite2 (fun e => ?_) (fun e => ?_)⟩
    · have y1 : y ≠ 0 := fun z => by subst z; simp at e
      refine ⟨fun σ' H' => σ' = [some (.int n), some (.int d), some (.int y), some (.int (x % y)), none] ∧ H' = H, ?_, ?_⟩
      · rintro σ' H' ⟨rfl, rfl⟩
        have h1 : 0 ≤ x % y := Int.emod_nonneg _ y1
        have h2 : x % y < y := Int.emod_lt_of_pos _ (by omega)
        exact ⟨(x % y).toNat, by omega, y, x % y, rfl, y0, h1, by rw [gcd_step x0 y0]; exact hg, rfl, rfl⟩
      · exact ⟨.int y, rfl, .int x, rfl, .int y, rfl, x, y, rfl, rfl, (show (0 : Int) < y by omega), _, _, rfl, rfl, rfl⟩
    · have y1 : y = 0 := by
        by_cases z : y = 0
        · exact z
        · exfalso; apply e; simp [z]
      subst y1
      have hx : x = (Int.gcd n d : Int) := by
        rw [← hg, Int.gcd_zero_right]
        omega
      have hp : 0 < x := by rw [hx]; exact gcd_posI hd
      have hB : x.natAbs < 2 ^ 8000 := by
        refine Nat.lt_of_le_of_lt ?_ dB
        have : Int.gcd n d ∣ d.natAbs := Nat.gcd_dvd_right _ _
        have := Nat.le_of_dvd (by omega) this
        omega
      have hdiv : ∀ i, CDivW i x := fun i => wide_div (b := 8000) hp hB (by decide) (by decide)
      refine ⟨.int d, rfl, d, 0, rfl, rfl, _, rfl, ?_⟩
      have fin : ∀ s : Int, s = 1 ∨ s = -1 → s = (if d > 0 then 1 else -1) → (tRet (tTup (tCons (tOp (rI CDivW fun i j => .int (i / j)) (tOp (rI CMul fun i j => .int (i * j)) (tVar 4) (tVar 0)) (tVar 2)) (tCons (tOp (rI CDivW fun i j => .int (i / j)) (tOp (rI CMul fun i j => .int (i * j)) (tVar 4) (tVar 1)) (tVar 2)) tNil)))) { nx := fun _ H' => Q .non H', rt := Q } [some (.int n), some (.int d), some (.int x), some (.int 0), some (.int s)] H := by
        intro s hs es
        refine ⟨.int s, rfl, .int n, rfl, s, n, rfl, rfl, .inl ⟨by omega, by omega⟩, .int x, rfl, _, x, rfl, rfl, hdiv _, .int s, rfl, .int d, rfl, s, d, rfl, rfl, .inl ⟨by omega, by omega⟩, .int x, rfl, _, x, rfl, rfl, hdiv _, sz (by show 2 ≤ 100000; decide), fun p np => ?_⟩
        have z := w p np
        unfold red at z
        rw [← hx, ← es] at z
        exact z
      refine ite2 (fun e2 => ?_) (fun e2 => ?_)
      · exact fin 1 (.inl rfl) (by rw [if_pos (show d > 0 from of_decide_eq_true e2)])
      · refine ⟨1, rfl, ?_⟩
        exact fin (-1) (.inr rfl) (by rw [if_neg (show ¬ d > 0 from fun z => e2 (decide_eq_true z))])
end
section
variable {P : Program} {w : World} {K : PySem.W.Frag} {mg : Str → Option Value} {base : Heap} {a : Ad}
def sp_l_small (K : PySem.W.Frag) : Sp := fun vs H Q _ => ∃ (r : Addr), vs = [.ref r] ∧ Rg H r ∧ ∀ v H' n d, Kp r H H' → Rg H' r → FrB K H' v n d 5 → Q v H'

theorem ok_l_small (T : Txt K mg a) : FnOk P w K mg base CX0 3 a.f_l_small a.fd_l_small ["_law_rng"] (sp_l_small K) := by
  have G_l_reduce := ok_l_reduce (P := P) (w := w) (base := base) T
  have G_l_choice := ok_l_choice (P := P) (w := w) (base := base) T
  have G_l_draw := ok_l_draw (P := P) (w := w) (base := base) T
  refine T.F_l_small.ok sc_l_small (fun vs H Q E h => ?_) (fun cdv A outer s H vs Q E hr h => ?_)
  · obtain ⟨r, rfl, _⟩ := h
    rfl
  · obtain ⟨r, rfl, R, w⟩ := h
    refine ⟨_, (pss_one (ps_ret (pe_call G_l_reduce (hr.mono (by first | decide | omega)) (by rfl) T.g_l_reduce T.F_l_reduce.kp T.b_l_reduce .nil pass0 (pa_cons (pe_op op_sub (pe_call G_l_draw (hr.mono (by first | decide | omega)) (by rfl) T.g_l_draw T.F_l_draw.kp T.b_l_draw .nil pass0 (pa_cons (pv 0) (pa_cons pe_int pa_nil))) pe_int) (pa_cons (pe_call G_l_choice (hr.mono (by first | decide | omega)) (by rfl) T.g_l_choice T.F_l_choice.kp T.b_l_choice .nil pass0 (pa_cons (pv 0) (pa_cons (pe_lst (pa_cons pe_int (pa_cons pe_int (pa_cons pe_int (pa_cons pe_int (pa_cons pe_int (pa_cons pe_int pa_nil))))))) pa_nil))) pa_nil))))), ?_⟩
    refine ⟨.ref r, rfl, r, 25, rfl, R, by decide, by decide, fun v H1 v0 v1 k1 R1 => ?_⟩
    refine ⟨_, _, rfl, rfl, .ref r, rfl, sz (by show 6 ≤ 100000; decide), fun l nl => ?_⟩
    have R2 : Rg (upd H1 l (.lst [.int 1, .int 1, .int 1, .int 2, .int 3, .int 4])) r := R1.same (Same.new nl)
    refine ⟨r, .ref l, _, rfl, R2, .inl ⟨l, rfl, R1.ne nl, .inl (SqL.of upd_same)⟩, by show 0 < 6; decide, by show 6 ≤ 100000; decide, fun x hx H2 k2 R3 => ?_⟩
    obtain ⟨j, rfl, j0, j1⟩ : ∃ j : Int, x = .int j ∧ 0 < j ∧ j < 32 := by
      simp only [List.mem_cons, List.not_mem_nil, or_false] at hx
      rcases hx with h | h | h | h | h | h
      · exact ⟨1, h, by decide, by decide⟩
      · exact ⟨1, h, by decide, by decide⟩
      · exact ⟨1, h, by decide, by decide⟩
      · exact ⟨2, h, by decide, by decide⟩
      · exact ⟨3, h, by decide, by decide⟩
      · exact ⟨4, h, by decide, by decide⟩
    have hB : (2 : Nat) ^ 5 = 32 := by decide
    refine ⟨v - 8, j, rfl, by omega, Nat.lt_of_lt_of_le (show j.natAbs < 2 ^ 5 by omega) (Nat.pow_le_pow_right (by decide) (by decide)), fun p np => ?_⟩
    have k3 := k1.trans ((Kp.of (Same.new nl)).trans k2)
    exact w _ _ _ _ (k3.trans (Kp.of (Same.new np))) (R3.same (Same.new np)) (red_B (by omega) (by omega) (by omega))
end
section
variable {P : Program} {w : World} {K : PySem.W.Frag} {mg : Str → Option Value} {base : Heap} {a : Ad}
def sp_l_wide (K : PySem.W.Frag) : Sp := fun vs H Q _ => ∃ (r : Addr), vs = [.ref r] ∧ Rg H r ∧ ∀ v H' n d, Kp r H H' → Rg H' r → FrB K H' v n d 40 → Q v H'
theorem FrB.up {K : PySem.W.Frag} {H : Hp} {v : V} {n d : Int} {B C : Nat} (f : FrB K H v n d B) (h : B ≤ C) : FrB K H v n d C := ⟨f.fr, f.d0, f.g, Nat.lt_of_lt_of_le f.nB (Nat.pow_le_pow_right (by decide) h), Nat.lt_of_lt_of_le f.dB (Nat.pow_le_pow_right (by decide) h)⟩
theorem pow10_12 : (10 : Int) ^ (12 : Int).toNat = 1000000000000 := by decide

theorem ok_l_wide (T : Txt K mg a) : FnOk P w K mg base CX0 4 a.f_l_wide a.fd_l_wide ["_law_rng"] (sp_l_wide K) := by
  have G_l_reduce := ok_l_reduce (P := P) (w := w) (base := base) T
  have G_l_choice := ok_l_choice (P := P) (w := w) (base := base) T
  have G_l_draw := ok_l_draw (P := P) (w := w) (base := base) T
  have G_l_small := ok_l_small (P := P) (w := w) (base := base) T
  refine T.F_l_wide.ok sc_l_wide (fun vs H Q E h => ?_) (fun cdv A outer s H vs Q E hr h => ?_)
  · obtain ⟨r, rfl, _⟩ := h
    rfl
  · obtain ⟨r, rfl, R, w⟩ := h
    refine ⟨_, (pss_cons (ps_set (i := 1) sc_l_wide.nd rfl (by first | exact Or.inl rfl | exact Or.inr rfl) (pe_call G_l_reduce (hr.mono (by first | decide | omega)) (by rfl) T.g_l_reduce T.F_l_reduce.kp T.b_l_reduce .nil pass0 (pa_cons (pe_op op_add (pe_op op_sub (pe_call G_l_draw (hr.mono (by first | decide | omega)) (by rfl) T.g_l_draw T.F_l_draw.kp T.b_l_draw .nil pass0 (pa_cons (pv 0) (pa_cons (pe_op op_sub (pe_op op_mul pe_int (pe_op op_pow pe_int pe_int)) pe_int) pa_nil))) (pe_op op_pow pe_int pe_int)) pe_int) (pa_cons (pe_op op_add pe_int (pe_call G_l_draw (hr.mono (by first | decide | omega)) (by rfl) T.g_l_draw T.F_l_draw.kp T.b_l_draw .nil pass0 (pa_cons (pv 0) (pa_cons (pe_op op_sub (pe_op op_pow pe_int pe_int) pe_int) pa_nil)))) pa_nil))))
          (pss_one (ps_ret (pe_call G_l_choice (hr.mono (by first | decide | omega)) (by rfl) T.g_l_choice T.F_l_choice.kp T.b_l_choice .nil pass0 (pa_cons (pv 0) (pa_cons (pe_lst (pa_cons (pv 1) (pa_cons (pe_call G_l_small (hr.mono (by first | decide | omega)) (by rfl) T.g_l_small T.F_l_small.kp T.b_l_small .nil pass0 (pa_cons (pv 0) pa_nil)) (pa_cons (pe_call G_l_small (hr.mono (by first | decide | omega)) (by rfl) T.g_l_small T.F_l_small.kp T.b_l_small .nil pass0 (pa_cons (pv 0) pa_nil)) (pa_cons (pe_tup (pa_cons pe_int (pa_cons pe_int pa_nil))) (pa_cons (pe_tup (pa_cons pe_int (pa_cons pe_int pa_nil))) (pa_cons (pe_tup (pa_cons (pe_op op_sub (pe_op op_pow pe_int pe_int) pe_int) (pa_cons pe_int pa_nil))) pa_nil))))))) pa_nil)))))), ?_⟩
    have e2 : (2 : Int) * 10 ^ (12 : Int).toNat - 1 = 1999999999999 := by decide
    have e1 : (10 : Int) ^ (12 : Int).toNat - 1 = 999999999999 := by decide
    have B40 : (2 : Nat) ^ 40 = 1099511627776 := by decide
    refine ⟨.ref r, rfl, 10, 12, rfl, rfl, ⟨by decide, by decide, by decide⟩, 2, _, rfl, rfl, .inl ⟨by decide, by decide⟩, _, 1, rfl, rfl, r, _, rfl, R, by decide, by decide, fun x1 H1 x0 xl k1 R1 => ?_⟩
    refine ⟨10, 12, rfl, rfl, ⟨by decide, by decide, by decide⟩, x1, _, rfl, rfl, _, 1, rfl, rfl, ?_⟩
    refine ⟨.ref r, rfl, 10, 12, rfl, rfl, ⟨by decide, by decide, by decide⟩, _, 1, rfl, rfl, r, _, rfl, R1, by decide, by decide, fun y1 H2 y0 yl k2 R2 => ?_⟩
    rw [e2] at xl
    rw [e1] at yl
    rw [pow10_12]
    refine ⟨1, y1, rfl, rfl, _, _, rfl, by omega, Nat.lt_of_lt_of_le (show (1 + y1).natAbs < 2 ^ 40 by omega) (Nat.pow_le_pow_right (by decide) (by decide)), fun p np => ?_⟩
    have fp := red_B (K := K) (H := H2) (p := p) (n := x1 - 1000000000000 + 1) (d := 1 + y1) (B := 40) (by omega) (by omega) (by omega)
    generalize hH3 : upd H2 p (.tup [.int (red (x1 - 1000000000000 + 1) (1 + y1)).1, .int (red (x1 - 1000000000000 + 1) (1 + y1)).2]) = H3 at fp
    have R3 : Rg H3 r := by rw [← hH3]; exact R2.same (Same.new np)
    have k3 : Kp r H H3 := by rw [← hH3]; exact (k1.trans k2).trans (Kp.of (Same.new np))
    refine ⟨.ref r, rfl, .ref p, rfl, .ref r, rfl, r, rfl, R3, fun v4 H4 n4 d4 k4 R4 f4 => ?_⟩
    refine ⟨.ref r, rfl, r, rfl, R4, fun v5 H5 n5 d5 k5 R5 f5 => ?_⟩
    refine ⟨sz (by show 2 ≤ 100000; decide), fun q1 nq1 => ⟨sz (by show 2 ≤ 100000; decide), fun q2 nq2 => ?_⟩⟩
    refine ⟨10, 12, rfl, rfl, ⟨by decide, by decide, by decide⟩, _, 1, rfl, rfl, sz (by show 2 ≤ 100000; decide), fun q3 nq3 => ⟨sz (by show 6 ≤ 100000; decide), fun l nl => ?_⟩⟩
    have s1 := Same.new (o := .tup [.int 0, .int 1]) nq1
    have s2 := Same.new (o := .tup [.int 1, .int 1]) nq2
    have s3 := Same.new (o := .tup [.int ((10 : Int) ^ (12 : Int).toNat - 1), .int 1]) nq3
    have g1 : FrB K (upd H5 q1 (.tup [.int 0, .int 1])) (.ref q1) 0 1 40 := ⟨Fr.new, by decide, by decide, by decide, by decide⟩
    have g2 : FrB K (upd (upd H5 q1 (.tup [.int 0, .int 1])) q2 (.tup [.int 1, .int 1])) (.ref q2) 1 1 40 := ⟨Fr.new, by decide, by decide, by decide, by decide⟩
    have g3 : FrB K (upd (upd (upd H5 q1 (.tup [.int 0, .int 1])) q2 (.tup [.int 1, .int 1])) q3 (.tup [.int ((10 : Int) ^ (12 : Int).toNat - 1), .int 1])) (.ref q3) ((10 : Int) ^ (12 : Int).toNat - 1) 1 40 := ⟨Fr.new, by decide, by decide, by decide, by decide⟩
    have s4 := Same.new (o := .lst [.ref p, v4, v5, .ref q1, .ref q2, .ref q3]) nl
    have sA := ((s1.trans s2).trans s3).trans s4
    have R6 := R5.same sA
    have kA := (((k3.trans k4).trans k5).trans (Kp.of sA))
    have hl := R5.same ((s1.trans s2).trans s3)
    have nlr : l ≠ r := hl.ne nl
    refine ⟨r, .ref l, _, rfl, R6, .inl ⟨l, rfl, nlr, .inl (SqL.of upd_same)⟩, by show 0 < 6; decide, by show 6 ≤ 100000; decide, fun x hx H7 k7 R7 => ?_⟩
    have fin : ∃ n d, FrB K H7 x n d 40 := by
      have up : ∀ {v n d B}, FrB K H5 v n d B → B ≤ 40 → FrB K H7 v n d 40 := fun f h => ((f.same sA).up h).kp R6 k7
      simp only [List.mem_cons, List.not_mem_nil, or_false] at hx
      rcases hx with h | h | h | h | h | h
      · rw [h]; exact ⟨_, _, up ((fp.kp R3 k4).kp R4 k5) (by decide)⟩
      · rw [h]; exact ⟨_, _, up (f4.kp R4 k5) (by decide)⟩
      · rw [h]; exact ⟨_, _, up f5 (by decide)⟩
      · rw [h]; exact ⟨_, _, (g1.same ((s2.trans s3).trans s4)).kp R6 k7⟩
      · rw [h]; exact ⟨_, _, (g2.same (s3.trans s4)).kp R6 k7⟩
      · rw [h]; exact ⟨_, _, (g3.same s4).kp R6 k7⟩
    obtain ⟨n, d, f⟩ := fin
    exact w _ _ n d (kA.trans k7) R7 f
end
section
variable {P : Program} {w : World} {K : PySem.W.Frag} {mg : Str → Option Value} {base : Heap} {a : Ad}
def sp_p_law (K : PySem.W.Frag) : Sp := fun vs H Q _ => ∃ (b : Addr) (ns : List Int), vs = [.ref b] ∧ SqL K H b (ns.map V.int) ∧ ns.length ≤ 63 ∧ ∀ H', Q (.bl true) H'

theorem ok_p_law (T : Txt K mg a) : FnOk P w K mg base CX0 22 a.f_p_law a.fd_p_law ["_law_script"] (sp_p_law K) := by
  have G_l_source := ok_l_source (P := P) (w := w) (base := base) T
  have G_l_equal := ok_l_equal (P := P) (w := w) (base := base) T
  have G_l_choice := ok_l_choice (P := P) (w := w) (base := base) T
  have G_p_ceiling := ok_p_ceiling (P := P) (w := w) (base := base) T
  have G_l_wide := ok_l_wide (P := P) (w := w) (base := base) T
  have G_l_small := ok_l_small (P := P) (w := w) (base := base) T
  have G_l_draw := ok_l_draw (P := P) (w := w) (base := base) T
  refine T.F_p_law.ok sc_p_law (fun vs H Q E h => ?_) (fun cdv A outer s H vs Q E hr h => ?_)
  · obtain ⟨b, ns, rfl, _⟩ := h
    rfl
  · obtain ⟨b, ns, rfl, hS, hlen, w⟩ := h
    refine ⟨_, (pss_cons (ps_set (i := 1) sc_p_law.nd rfl (by first | exact Or.inl rfl | exact Or.inr rfl) (pe_call G_l_source (hr.mono (by first | decide | omega)) (by rfl) T.g_l_source T.F_l_source.kp T.b_l_source .nil pass0 (pa_cons (pv 0) pa_nil)))
          (pss_cons (ps_for PassesOwn.never rfl (pi_range1 (by rfl) T.n_range (pa_cons pe_int pa_nil)) (pg_name (i := 2) sc_p_law.nd rfl (by first | exact Or.inl rfl | exact Or.inr rfl)) (pss_cons (ps_set (i := 3) sc_p_law.nd rfl (by first | exact Or.inl rfl | exact Or.inr rfl) (pe_call G_l_choice (hr.mono (by first | decide | omega)) (by rfl) T.g_l_choice T.F_l_choice.kp T.b_l_choice .nil pass0 (pa_cons (pv 1) (pa_cons (pe_lst (pa_cons (pe_call G_l_wide (hr.mono (by first | decide | omega)) (by rfl) T.g_l_wide T.F_l_wide.kp T.b_l_wide .nil pass0 (pa_cons (pv 1) pa_nil)) (pa_cons (pe_call G_l_small (hr.mono (by first | decide | omega)) (by rfl) T.g_l_small T.F_l_small.kp T.b_l_small .nil pass0 (pa_cons (pv 1) pa_nil)) (pa_cons (pe_tup (pa_cons (pe_op op_sub (pe_call G_l_draw (hr.mono (by first | decide | omega)) (by rfl) T.g_l_draw T.F_l_draw.kp T.b_l_draw .nil pass0 (pa_cons (pv 1) (pa_cons pe_int pa_nil))) pe_int) (pa_cons pe_int pa_nil))) pa_nil)))) pa_nil))))
          (pss_cons (ps_set (i := 4) sc_p_law.nd rfl (by first | exact Or.inl rfl | exact Or.inr rfl) (pe_call G_p_ceiling (hr.mono (by first | decide | omega)) (by rfl) T.g_p_ceiling T.F_p_ceiling.kp T.b_p_ceiling .nil pass0 (pa_cons (pv 3) pa_nil)))
          (pss_cons (ps_if (PW.pt (pw_or (pt_not (pt_val (pe_callB call_isi (by rfl) T.n_isinstance (by decide +kernel) (pa_cons (pv 4) (pa_cons (pe_bltn (v := .ty "int") (by rfl) T.n_int (by decide +kernel) rfl) pa_nil))))) (pw_or1 (pt_val (pe_callB call_isi (by rfl) T.n_isinstance (by decide +kernel) (pa_cons (pv 4) (pa_cons (pe_bltn (v := .ty "bool") (by rfl) T.n_bool (by decide +kernel) rfl) pa_nil))))))) (pss_one (ps_ret pe_bl)) pss_nil)
          (pss_one (ps_if (PW.pt (pw_or (pt_cmpR op_lt (pe_op op_mul (pv 4) (pe_ix ix_tup (pv 3) pe_int (fun _ _ => rfl))) (pe_ix ix_tup (pv 3) pe_int (fun _ _ => rfl)) (nomark _)) (pw_or1 (pt_cmpR op_ge (pe_op op_mul (pe_op op_sub (pv 4) pe_int) (pe_ix ix_tup (pv 3) pe_int (fun _ _ => rfl))) (pe_ix ix_tup (pv 3) pe_int (fun _ _ => rfl)) (nomark _))))) (pss_one (ps_ret pe_bl)) pss_nil))))))
          (pss_one (ps_ret (pe_call G_l_equal (hr.mono (by first | decide | omega)) (by rfl) T.g_l_equal T.F_l_equal.kp T.b_l_equal .nil pass0 (pa_cons (pe_lst (pa_cons (pe_call G_p_ceiling (hr.mono (by first | decide | omega)) (by rfl) T.g_p_ceiling T.F_p_ceiling.kp T.b_p_ceiling .nil pass0 (pa_cons (pe_tup (pa_cons (pe_un un_neg pe_int) (pa_cons pe_int pa_nil))) pa_nil)) (pa_cons (pe_call G_p_ceiling (hr.mono (by first | decide | omega)) (by rfl) T.g_p_ceiling T.F_p_ceiling.kp T.b_p_ceiling .nil pass0 (pa_cons (pe_tup (pa_cons pe_int (pa_cons pe_int pa_nil))) pa_nil)) (pa_cons (pe_call G_p_ceiling (hr.mono (by first | decide | omega)) (by rfl) T.g_p_ceiling T.F_p_ceiling.kp T.b_p_ceiling .nil pass0 (pa_cons (pe_tup (pa_cons pe_int (pa_cons pe_int pa_nil))) pa_nil)) (pa_cons (pe_call G_p_ceiling (hr.mono (by first | decide | omega)) (by rfl) T.g_p_ceiling T.F_p_ceiling.kp T.b_p_ceiling .nil pass0 (pa_cons (pe_tup (pa_cons (pe_un un_neg pe_int) (pa_cons pe_int pa_nil))) pa_nil)) pa_nil))))) (pa_cons (pe_lst (pa_cons pe_int (pa_cons pe_int (pa_cons pe_int (pa_cons (pe_un un_neg pe_int) pa_nil))))) pa_nil))))))), ?_⟩
    refine ⟨.ref b, rfl, b, ns, rfl, hS, hlen, fun H0 r s0 nr R0 => ?_⟩
    refine ⟨8, rfl, by decide, by decide, for_range (n := 8) (fun _ σ H' => ∃ y2 y3 y4, σ = [some (.ref b), some (.ref r), y2, y3, y4] ∧ Rg H' r) ⟨none, none, none, rfl, R0⟩ ?_ ?_⟩
    · rintro i σ H1 hi ⟨y2, y3, y4, rfl, R1⟩
      refine ⟨.ref r, rfl, .ref r, rfl, r, rfl, R1, fun v2 H2 n2 d2 k2 R2 f2 => ?_⟩
      refine ⟨.ref r, rfl, r, rfl, R2, fun v3 H3 n3 d3 k3 R3 f3 => ?_⟩
      refine ⟨.ref r, rfl, r, 99, rfl, R3, by decide, by decide, fun v4 H4 v40 v41 k4 R4 => ?_⟩
      refine ⟨_, _, rfl, rfl, sz (by show 2 ≤ 100000; decide), fun q nq => ⟨sz (by show 3 ≤ 100000; decide), fun l nl => ?_⟩⟩
      have B40 : (2 : Nat) ^ 40 = 1099511627776 := by decide
      have g1 : FrB K (upd H4 q (.tup [.int (v4 - 49), .int 1])) (.ref q) (v4 - 49) 1 40 := ⟨Fr.new, by decide, by simp, by omega, by decide⟩
      have s1 := Same.new (o := .tup [.int (v4 - 49), .int 1]) nq
      have s2 := Same.new (o := .lst [v2, v3, .ref q]) nl
      have R5 := R4.same (s1.trans s2)
      refine ⟨r, .ref l, _, rfl, R5, .inl ⟨l, rfl, (R4.same s1).ne nl, .inl (SqL.of upd_same)⟩, by show 0 < 3; decide, by show 3 ≤ 100000; decide, fun x hx H6 k6 R6 => ?_⟩
      obtain ⟨n, d, f⟩ : ∃ n d, FrB K H6 x n d 40 := by
        simp only [List.mem_cons, List.not_mem_nil, or_false] at hx
        rcases hx with h | h | h
        · rw [h]; exact ⟨_, _, (((f2.kp R2 k3).kp R3 k4).same (s1.trans s2)).kp R5 k6⟩
        · rw [h]; exact ⟨_, _, (((f3.up (by decide)).kp R3 k4).same (s1.trans s2)).kp R5 k6⟩
        · rw [h]; exact ⟨_, _, (g1.same s2).kp R5 k6⟩
      obtain ⟨p, rfl, hp⟩ := f.fr
      have d0 := f.d0
      have dB := f.dB
      refine ⟨.ref p, rfl, .ref p, n, d, rfl, f.fr, d0, Nat.lt_of_lt_of_le dB (Nat.pow_le_pow_right (by decide) (by decide)), ?_⟩
      refine ⟨.int (-(-n / d)), rfl, _, _, _, _, true, rfl, .ty _, .base (.int _), kit_ty (by decide +kernel), true, rfl, iteF ⟨.int (-(-n / d)), rfl, _, _, _, _, false, rfl, .ty _, .base (.int _), kit_ty (by decide +kernel), false, rfl, iteF ?_⟩⟩
      have e1 := Int.emod_add_mul_ediv (-n) d
      have e2 := Int.emod_nonneg (-n) (show d ≠ 0 by omega)
      have e3 := Int.emod_lt_of_pos (-n) d0
      generalize hm : (-n) % d = m at *
      generalize hq : (-n) / d = t at *
      have c1 : ¬ (-t * d < n) := by rw [Int.neg_mul, Int.mul_comm]; omega
      have c2 : ¬ (n ≤ (-t - 1) * d) := by rw [Int.sub_mul, Int.neg_mul, Int.mul_comm]; omega
      refine ⟨.int (-t), rfl, .ref p, rfl, p, _, 1, _, rfl, rfl, hp, rfl, -t, d, rfl, rfl, .inr ⟨by omega, by omega⟩, .ref p, rfl, p, _, 0, _, rfl, rfl, hp, rfl, _, n, rfl, rfl, _, rfl, ifF (decide_eq_false c1) ?_⟩
      refine ⟨.int (-t), rfl, _, _, rfl, rfl, .ref p, rfl, p, _, 1, _, rfl, rfl, hp, rfl, -t - 1, d, rfl, rfl, .inr ⟨by omega, by omega⟩, .ref p, rfl, p, _, 0, _, rfl, rfl, hp, rfl, _, n, rfl, rfl, _, rfl, ifF (decide_eq_false c2) ?_⟩
      exact ⟨_, _, _, rfl, R6⟩
    · rintro σ H1 ⟨y2, y3, y4, rfl, R1⟩
      refine ⟨1, rfl, sz (by show 2 ≤ 100000; decide), fun p1 n1 => ⟨.ref p1, -1, 2, rfl, Fr.new, by decide, by decide, ?_⟩⟩
      refine ⟨sz (by show 2 ≤ 100000; decide), fun p2 n2 => ⟨.ref p2, 1, 2, rfl, Fr.new, by decide, by decide, ?_⟩⟩
      refine ⟨sz (by show 2 ≤ 100000; decide), fun p3 n3 => ⟨.ref p3, 0, 1, rfl, Fr.new, by decide, by decide, ?_⟩⟩
      refine ⟨3, rfl, sz (by show 2 ≤ 100000; decide), fun p4 n4 => ⟨.ref p4, -3, 1, rfl, Fr.new, by decide, by decide, ?_⟩⟩
      refine ⟨sz (by show 4 ≤ 100000; decide), fun l1 m1 => ⟨3, rfl, sz (by show 4 ≤ 100000; decide), fun l2 m2 => ?_⟩⟩
      refine ⟨.ref l1, .ref l2, rfl, Eqd.mono (Eqd.lst (n := 0) (SqL.of (by rw [upd_ne (ne_of_none upd_same m2)]; exact upd_same)) (SqL.of upd_same) rfl (by show 4 ≤ 100000; decide) ?_) (by decide), fun H' _ => w H'⟩
      exact all2_cons (Eqd.atom rfl) (all2_cons (Eqd.atom rfl) (all2_cons (Eqd.atom rfl) (all2_cons (Eqd.atom rfl) all2_nil)))
end
theorem all_mk {l : PySem.W.OpenLaw} {w : World} {K : PySem.W.Frag} {h : Heap} {mg : Str → Option Value} {fa : Addr} (X : K.In h) (G : h.Ns mainGlobals mg) (hfa : mg "law" = some (.ref fa))
    {od0 an0 : Option Addr} {sl0 : Array (Option Value)} {oc0 kV0 dc0 pm0 cd0 ct0 : Value} {f0 : Addr}
    {od1 an1 : Option Addr} {sl1 : Array (Option Value)} {oc1 kV1 dc1 pm1 cd1 ct1 : Value} {f1 : Addr}
    {od2 an2 : Option Addr} {sl2 : Array (Option Value)} {oc2 kV2 dc2 pm2 cd2 ct2 : Value} {f2 : Addr}
    {od3 an3 : Option Addr} {sl3 : Array (Option Value)} {oc3 kV3 dc3 pm3 cd3 ct3 : Value} {f3 : Addr}
    {od4 an4 : Option Addr} {sl4 : Array (Option Value)} {oc4 kV4 dc4 pm4 cd4 ct4 : Value} {f4 : Addr}
    {od5 an5 : Option Addr} {sl5 : Array (Option Value)} {oc5 kV5 dc5 pm5 cd5 ct5 : Value} {f5 : Addr}
    {od6 an6 : Option Addr} {sl6 : Array (Option Value)} {oc6 kV6 dc6 pm6 cd6 ct6 : Value} {f6 : Addr}
    {od7 an7 : Option Addr} {sl7 : Array (Option Value)} {oc7 kV7 dc7 pm7 cd7 ct7 : Value} {f7 : Addr}
    {od8 an8 : Option Addr} {sl8 : Array (Option Value)} {oc8 kV8 dc8 pm8 cd8 ct8 : Value} {f8 : Addr}
    (a0 : PySem.W.nsIn K mainGlobals "ceiling" = some (some (.ref f0))) (l0 : K.lookup f0 = some ⟨oc0, od0, .func (PySem.W.fnOf "ceiling" "ceiling" (defArgs s_p_ceiling) (defBody s_p_ceiling) (defScope s_p_ceiling) .none kV0 dc0 pm0 an0 cd0 ct0), sl0⟩) (c0 : PySem.W.codeIn K cd0 "ceiling" = true) (k0 : PySem.W.keepIn K (.ref f0) = true)
    (a1 : PySem.W.nsIn K mainGlobals "_law_source" = some (some (.ref f1))) (l1 : K.lookup f1 = some ⟨oc1, od1, .func (PySem.W.fnOf "_law_source" "_law_source" (defArgs s_l_source) (defBody s_l_source) (defScope s_l_source) .none kV1 dc1 pm1 an1 cd1 ct1), sl1⟩) (c1 : PySem.W.codeIn K cd1 "_law_source" = true) (k1 : PySem.W.keepIn K (.ref f1) = true)
    (a2 : PySem.W.nsIn K mainGlobals "_law_draw" = some (some (.ref f2))) (l2 : K.lookup f2 = some ⟨oc2, od2, .func (PySem.W.fnOf "_law_draw" "_law_draw" (defArgs s_l_draw) (defBody s_l_draw) (defScope s_l_draw) .none kV2 dc2 pm2 an2 cd2 ct2), sl2⟩) (c2 : PySem.W.codeIn K cd2 "_law_draw" = true) (k2 : PySem.W.keepIn K (.ref f2) = true)
    (a3 : PySem.W.nsIn K mainGlobals "_law_choice" = some (some (.ref f3))) (l3 : K.lookup f3 = some ⟨oc3, od3, .func (PySem.W.fnOf "_law_choice" "_law_choice" (defArgs s_l_choice) (defBody s_l_choice) (defScope s_l_choice) .none kV3 dc3 pm3 an3 cd3 ct3), sl3⟩) (c3 : PySem.W.codeIn K cd3 "_law_choice" = true) (k3 : PySem.W.keepIn K (.ref f3) = true)
    (a4 : PySem.W.nsIn K mainGlobals "_law_equal" = some (some (.ref f4))) (l4 : K.lookup f4 = some ⟨oc4, od4, .func (PySem.W.fnOf "_law_equal" "_law_equal" (defArgs s_l_equal) (defBody s_l_equal) (defScope s_l_equal) .none kV4 dc4 pm4 an4 cd4 ct4), sl4⟩) (c4 : PySem.W.codeIn K cd4 "_law_equal" = true) (k4 : PySem.W.keepIn K (.ref f4) = true)
    (a5 : PySem.W.nsIn K mainGlobals "_law_reduce" = some (some (.ref f5))) (l5 : K.lookup f5 = some ⟨oc5, od5, .func (PySem.W.fnOf "_law_reduce" "_law_reduce" (defArgs s_l_reduce) (defBody s_l_reduce) (defScope s_l_reduce) .none kV5 dc5 pm5 an5 cd5 ct5), sl5⟩) (c5 : PySem.W.codeIn K cd5 "_law_reduce" = true) (k5 : PySem.W.keepIn K (.ref f5) = true)
    (a6 : PySem.W.nsIn K mainGlobals "_law_small" = some (some (.ref f6))) (l6 : K.lookup f6 = some ⟨oc6, od6, .func (PySem.W.fnOf "_law_small" "_law_small" (defArgs s_l_small) (defBody s_l_small) (defScope s_l_small) .none kV6 dc6 pm6 an6 cd6 ct6), sl6⟩) (c6 : PySem.W.codeIn K cd6 "_law_small" = true) (k6 : PySem.W.keepIn K (.ref f6) = true)
    (a7 : PySem.W.nsIn K mainGlobals "_law_wide" = some (some (.ref f7))) (l7 : K.lookup f7 = some ⟨oc7, od7, .func (PySem.W.fnOf "_law_wide" "_law_wide" (defArgs s_l_wide) (defBody s_l_wide) (defScope s_l_wide) .none kV7 dc7 pm7 an7 cd7 ct7), sl7⟩) (c7 : PySem.W.codeIn K cd7 "_law_wide" = true) (k7 : PySem.W.keepIn K (.ref f7) = true)
    (a8 : PySem.W.nsIn K mainGlobals "law" = some (some (.ref f8))) (l8 : K.lookup f8 = some ⟨oc8, od8, .func (PySem.W.fnOf "law" "law" (defArgs s_p_law) (defBody s_p_law) (defScope s_p_law) .none kV8 dc8 pm8 an8 cd8 ct8), sl8⟩) (c8 : PySem.W.codeIn K cd8 "law" = true) (k8 : PySem.W.keepIn K (.ref f8) = true)
    (z0 : PySem.W.nsIn K mainGlobals "list" = some none)
    (z1 : PySem.W.nsIn K mainGlobals "len" = some none)
    (z2 : PySem.W.nsIn K mainGlobals "isinstance" = some none)
    (z3 : PySem.W.nsIn K mainGlobals "tuple" = some none)
    (z4 : PySem.W.nsIn K mainGlobals "all" = some none)
    (z5 : PySem.W.nsIn K mainGlobals "bool" = some none)
    (z6 : PySem.W.nsIn K mainGlobals "int" = some none)
    (z7 : PySem.W.nsIn K mainGlobals "str" = some none)
    (z8 : PySem.W.nsIn K mainGlobals "zip" = some none)
    (z9 : PySem.W.nsIn K mainGlobals "abs" = some none)
    (z10 : PySem.W.nsIn K mainGlobals "range" = some none)
    : ∃ fd : FuncData, (∀ (s : Shared) (v : Value), BindsTo s fd ⟨[v], []⟩ [("_law_script", v)]) ∧ ∀ base : Heap, K.In base → base.Ns mainGlobals mg → FnOk l.prog w K mg base CX0 22 fa fd ["_law_script"] (sp_p_law K) := by
  have e := hfa.symm.trans (PySem.W.mg_of X G a8)
  cases e
  have F0 := fun_mk (st := s_p_ceiling) l0 c0 k0
  have b0 := F0.binds (ps := ["one"]) fun _ _ _ _ _ _ us hl => match us, hl with | [_], _ => rfl
  have F1 := fun_mk (st := s_l_source) l1 c1 k1
  have b1 := F1.binds (ps := ["_law_script"]) fun _ _ _ _ _ _ us hl => match us, hl with | [_], _ => rfl
  have F2 := fun_mk (st := s_l_draw) l2 c2 k2
  have b2 := F2.binds (ps := ["_law_rng", "_law_quantity"]) fun _ _ _ _ _ _ us hl => match us, hl with | [_, _], _ => rfl
  have F3 := fun_mk (st := s_l_choice) l3 c3 k3
  have b3 := F3.binds (ps := ["_law_rng", "_law_some"]) fun _ _ _ _ _ _ us hl => match us, hl with | [_, _], _ => rfl
  have F4 := fun_mk (st := s_l_equal) l4 c4 k4
  have b4 := F4.binds (ps := ["_law_result", "_law_expected"]) fun _ _ _ _ _ _ us hl => match us, hl with | [_, _], _ => rfl
  have F5 := fun_mk (st := s_l_reduce) l5 c5 k5
  have b5 := F5.binds (ps := ["_law_num", "_law_den"]) fun _ _ _ _ _ _ us hl => match us, hl with | [_, _], _ => rfl
  have F6 := fun_mk (st := s_l_small) l6 c6 k6
  have b6 := F6.binds (ps := ["_law_rng"]) fun _ _ _ _ _ _ us hl => match us, hl with | [_], _ => rfl
  have F7 := fun_mk (st := s_l_wide) l7 c7 k7
  have b7 := F7.binds (ps := ["_law_rng"]) fun _ _ _ _ _ _ us hl => match us, hl with | [_], _ => rfl
  have F8 := fun_mk (st := s_p_law) l8 c8 k8
  have b8 := F8.binds (ps := ["_law_script"]) fun _ _ _ _ _ _ us hl => match us, hl with | [_], _ => rfl
  let A : Ad := { f_p_ceiling := f0, fd_p_ceiling := PySem.W.fnOf "ceiling" "ceiling" (defArgs s_p_ceiling) (defBody s_p_ceiling) (defScope s_p_ceiling) .none kV0 dc0 pm0 an0 cd0 ct0, f_l_source := f1, fd_l_source := PySem.W.fnOf "_law_source" "_law_source" (defArgs s_l_source) (defBody s_l_source) (defScope s_l_source) .none kV1 dc1 pm1 an1 cd1 ct1, f_l_draw := f2, fd_l_draw := PySem.W.fnOf "_law_draw" "_law_draw" (defArgs s_l_draw) (defBody s_l_draw) (defScope s_l_draw) .none kV2 dc2 pm2 an2 cd2 ct2, f_l_choice := f3, fd_l_choice := PySem.W.fnOf "_law_choice" "_law_choice" (defArgs s_l_choice) (defBody s_l_choice) (defScope s_l_choice) .none kV3 dc3 pm3 an3 cd3 ct3, f_l_equal := f4, fd_l_equal := PySem.W.fnOf "_law_equal" "_law_equal" (defArgs s_l_equal) (defBody s_l_equal) (defScope s_l_equal) .none kV4 dc4 pm4 an4 cd4 ct4, f_l_reduce := f5, fd_l_reduce := PySem.W.fnOf "_law_reduce" "_law_reduce" (defArgs s_l_reduce) (defBody s_l_reduce) (defScope s_l_reduce) .none kV5 dc5 pm5 an5 cd5 ct5, f_l_small := f6, fd_l_small := PySem.W.fnOf "_law_small" "_law_small" (defArgs s_l_small) (defBody s_l_small) (defScope s_l_small) .none kV6 dc6 pm6 an6 cd6 ct6, f_l_wide := f7, fd_l_wide := PySem.W.fnOf "_law_wide" "_law_wide" (defArgs s_l_wide) (defBody s_l_wide) (defScope s_l_wide) .none kV7 dc7 pm7 an7 cd7 ct7, f_p_law := fa, fd_p_law := PySem.W.fnOf "law" "law" (defArgs s_p_law) (defBody s_p_law) (defScope s_p_law) .none kV8 dc8 pm8 an8 cd8 ct8 }
  have T : Txt K mg A := { F_p_ceiling := F0, g_p_ceiling := PySem.W.mg_of X G a0, b_p_ceiling := b0, F_l_source := F1, g_l_source := PySem.W.mg_of X G a1, b_l_source := b1, F_l_draw := F2, g_l_draw := PySem.W.mg_of X G a2, b_l_draw := b2, F_l_choice := F3, g_l_choice := PySem.W.mg_of X G a3, b_l_choice := b3, F_l_equal := F4, g_l_equal := PySem.W.mg_of X G a4, b_l_equal := b4, F_l_reduce := F5, g_l_reduce := PySem.W.mg_of X G a5, b_l_reduce := b5, F_l_small := F6, g_l_small := PySem.W.mg_of X G a6, b_l_small := b6, F_l_wide := F7, g_l_wide := PySem.W.mg_of X G a7, b_l_wide := b7, F_p_law := F8, g_p_law := PySem.W.mg_of X G a8, b_p_law := b8, n_list := PySem.W.mg_none_of X G z0, n_len := PySem.W.mg_none_of X G z1, n_isinstance := PySem.W.mg_none_of X G z2, n_tuple := PySem.W.mg_none_of X G z3, n_all := PySem.W.mg_none_of X G z4, n_bool := PySem.W.mg_none_of X G z5, n_int := PySem.W.mg_none_of X G z6, n_str := PySem.W.mg_none_of X G z7, n_zip := PySem.W.mg_none_of X G z8, n_abs := PySem.W.mg_none_of X G z9, n_range := PySem.W.mg_none_of X G z10 }
  exact ⟨PySem.W.fnOf "law" "law" (defArgs s_p_law) (defBody s_p_law) (defScope s_p_law) .none kV8 dc8 pm8 an8 cd8 ct8, fun s v => .of_eq rfl, fun base _ _ => ok_p_law (a := A) T⟩
end Gait
open PySem PySem.W PyProof.Rows
set_option maxRecDepth 100000 in
set_option maxHeartbeats 0 in
theorem PySem.Challenge.cw_gaithold_k04_ceilings_holds : PySem.Challenge.rw_gaithold_k04_ceilings.Holds := by
  w_on; o_law; k_head; (case hw => w_witness2)
  k_fill
  refine L2.walk_of (l := PySem.Challenge.rw_gaithold_k04_ceilings) (n := 63) (k := 22) (x := "_law_script") (CX := fun _ => L2.CX0) (sp := fun w => Gait.sp_p_law _) rfl (by decide) rfl ⟨rfl, by decide, by decide⟩ (fun w h Y => PySem.W.kIn_of Y) ?F (fun _ _ a ns hl _ hS => ⟨a, ns, rfl, hS, hl, fun _ => rfl⟩) (fun _ _ _ _ _ h => h)
  case F =>
    intro w mg fa h KX G hmg
    refine' Gait.all_mk KX G hmg ?a0 ?l0 ?c0 ?k0 ?a1 ?l1 ?c1 ?k1 ?a2 ?l2 ?c2 ?k2 ?a3 ?l3 ?c3 ?k3 ?a4 ?l4 ?c4 ?k4 ?a5 ?l5 ?c5 ?k5 ?a6 ?l6 ?c6 ?k6 ?a7 ?l7 ?c7 ?k7 ?a8 ?l8 ?c8 ?k8 ?z0 ?z1 ?z2 ?z3 ?z4 ?z5 ?z6 ?z7 ?z8 ?z9 ?z10
    (case a0 => k_is); (case l0 => k_is); (case c0 => k_is); (case k0 => k_is); (case a1 => k_is); (case l1 => k_is); (case c1 => k_is); (case k1 => k_is); (case a2 => k_is); (case l2 => k_is); (case c2 => k_is); (case k2 => k_is); (case a3 => k_is); (case l3 => k_is); (case c3 => k_is); (case k3 => k_is); (case a4 => k_is); (case l4 => k_is); (case c4 => k_is); (case k4 => k_is); (case a5 => k_is); (case l5 => k_is); (case c5 => k_is); (case k5 => k_is); (case a6 => k_is); (case l6 => k_is); (case c6 => k_is); (case k6 => k_is); (case a7 => k_is); (case l7 => k_is); (case c7 => k_is); (case k7 => k_is); (case a8 => k_is); (case l8 => k_is); (case c8 => k_is); (case k8 => k_is); (case z0 => k_is); (case z1 => k_is); (case z2 => k_is); (case z3 => k_is); (case z4 => k_is); (case z5 => k_is); (case z6 => k_is); (case z7 => k_is); (case z8 => k_is); (case z9 => k_is); (case z10 => k_is)
