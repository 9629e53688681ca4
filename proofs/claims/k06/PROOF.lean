import PyProof.Rows.All
import Wide.All
import OpenK.AllK
import Wide.FinOn
import PySem.Challenge.RW_gaithold_k06_valid_names
import HandS.ForMost
import HandS.Wide
import HandS.IsInst
import HandS.Zip
import HandS.Codes
import HandS.Defaults
set_option Elab.async false
set_option linter.all false
set_option maxRecDepth 100000
set_option maxHeartbeats 4000000
namespace Gait
open PySem PySem.Spec PyProof.Rows L2
section
variable {X : Cx}
/-- // by any divisor but 0 -/
def CDivA (_ j : Int) : Prop := j ≠ 0 ∧ j.natAbs.log2 < 9000
theorem op_fdivA : OpR X (binaryOp .FloorDiv) (rI CDivA fun i j => .int (i.fdiv j)) := opI fun _ _ _ _ _ _ _ hc w => floordiv_int hc.1 w (.inl (PyProof.noPylong_of_log2 hc.2))
end
/-- what stood stands, but for what stands at r -/
def Kp (r : Addr) (H H' : Hp) : Prop := (∀ b o, b ≠ r → H b = some o → H' b = some o) ∧ ∀ c l, H r = some (.lst (.ref c :: l)) → ∃ l', H' r = some (.lst (.ref c :: l'))
theorem Kp.refl {r : Addr} {H : Hp} : Kp r H H := ⟨fun _ _ _ h => h, fun _ l h => ⟨l, h⟩⟩
theorem Kp.trans {r : Addr} {H H1 H2 : Hp} (a : Kp r H H1) (b : Kp r H1 H2) : Kp r H H2 := ⟨fun c o n h => b.1 c o n (a.1 c o n h), fun c l h => by
  obtain ⟨l1, h1⟩ := a.2 c l h
  exact b.2 c l1 h1⟩
theorem Kp.of {r : Addr} {H H' : Hp} (s : Same H H') : Kp r H H' := ⟨fun b o _ h => s b o h, fun _ l h => ⟨l, s _ _ h⟩⟩
theorem Kp.at {r c : Addr} {H : Hp} {l l' : List V} (e : H r = some (.lst (.ref c :: l))) : Kp r H (upd H r (.lst (.ref c :: l'))) := ⟨fun b u n h => by rw [upd_ne n]; exact h, fun d m h => by
  rw [e] at h
  cases h
  exact ⟨l', upd_same⟩⟩
theorem Kp.rd {r x : Addr} {H H' : Hp} {u : HO} (k : Kp r H H') (n : x ≠ r) (h : Rd H x u) : Rd H' x u := by
  rcases h with h | ⟨o, h⟩
  · exact .inl (k.1 _ _ n h)
  · exact .inr ⟨o, k.1 _ _ n h⟩
theorem Kp.L {K : PySem.W.Frag} {r x : Addr} {H H' : Hp} {xs : List V} (k : Kp r H H') (n : x ≠ r) (h : SqL K H x xs) : SqL K H' x xs := by
  rcases h with h | h
  · exact .inl (k.rd n h)
  · exact .inr h
theorem Kp.T {K : PySem.W.Frag} {r x : Addr} {H H' : Hp} {xs : List V} (k : Kp r H H') (n : x ≠ r) (h : SqT K H x xs) : SqT K H' x xs := by
  rcases h with h | h
  · exact .inl (k.rd n h)
  · exact .inr h
theorem Same.T {K : PySem.W.Frag} {x : Addr} {H H' : Hp} {xs : List V} (k : Same H H') (h : SqT K H x xs) : SqT K H' x xs := by
  rcases h with (h | ⟨o, h⟩) | h
  · exact .inl (.inl (k _ _ h))
  · exact .inl (.inr ⟨o, k _ _ h⟩)
  · exact .inr h
theorem Same.new {H : Hp} {p : Addr} {o : HO} (h : H p = none) : Same H (upd H p o) := fun b x e => by
  rw [upd_ne (ne_of_none e h)]
  exact e
theorem some_ne_none {H : Hp} {p q : Addr} {o : HO} (h : H p = some o) (n : H q = none) : p ≠ q := ne_of_none h n
/-- the law's source of numbers at r -/
structure RgS (H : Hp) (r c : Addr) (ns : List Int) (i x k : Int) : Prop where
  hr : H r = some (.lst [.ref c, .int i, .int x, .int k])
  hc : H c = some (.lst (ns.map V.int))
  i0 : 0 ≤ i
  i1 : i ≤ (ns.length : Int)
  x0 : 0 ≤ x
  k0 : 0 ≤ k
  k1 : k < 2147483563
theorem RgS.ne {H : Hp} {r c : Addr} {ns : List Int} {i x k : Int} (R : RgS H r c ns i x k) : c ≠ r := by
  refine ne_of R.hc R.hr fun z => ?_
  cases ns with
  | nil => cases z
  | cons m l => cases z
theorem RgS.set {H : Hp} {r c : Addr} {ns : List Int} {i x k i' x' k' : Int} (R : RgS H r c ns i x k) (i0 : 0 ≤ i') (i1 : i' ≤ (ns.length : Int)) (x0 : 0 ≤ x') (k0 : 0 ≤ k') (k1 : k' < 2147483563) : RgS (upd H r (.lst [.ref c, .int i', .int x', .int k'])) r c ns i' x' k' :=
  ⟨upd_same, by rw [upd_ne R.ne]; exact R.hc, i0, i1, x0, k0, k1⟩
def Rg (H : Hp) (r : Addr) : Prop := ∃ c ns i x k, RgS H r c ns i x k
theorem Rg.same {H H' : Hp} {r : Addr} (R : Rg H r) (s : Same H H') : Rg H' r := by
  obtain ⟨c, ns, i, x, k, R⟩ := R
  exact ⟨c, ns, i, x, k, s _ _ R.hr, s _ _ R.hc, R.i0, R.i1, R.x0, R.k0, R.k1⟩
theorem Rg.some {H : Hp} {r : Addr} (R : Rg H r) : ∃ o, H r = some o := by
  obtain ⟨c, ns, i, x, k, R⟩ := R
  exact ⟨_, R.hr⟩
theorem Rg.ne {H : Hp} {r p : Addr} (R : Rg H r) (h : H p = none) : p ≠ r := by
  obtain ⟨o, e⟩ := R.some
  exact (ne_of_none e h).symm
/-- what is new at H2 may be written later -/
theorem Rg.put {H2 H5 : Hp} {r D : Addr} {o : HO} (R2 : Rg H2 r) (nD : H2 D = none) (k : Kp r H2 H5) (R5 : Rg H5 r) : Rg (upd H5 D o) r := by
  have Dr : D ≠ r := R2.ne nD
  obtain ⟨c2, n2, i2, x2, k2, R2⟩ := R2
  obtain ⟨c, ns, i, x, kk, R⟩ := R5
  obtain ⟨l', e⟩ := k.2 _ _ R2.hr
  rw [R.hr] at e
  cases e
  exact ⟨c2, ns, i, x, kk, by rw [upd_ne Dr.symm]; exact R.hr, by rw [upd_ne (ne_of_none R2.hc nD)]; exact R.hc, R.i0, R.i1, R.x0, R.k0, R.k1⟩
theorem Kp.put {H H2 H5 : Hp} {r D : Addr} {o : HO} (nD : H2 D = none) (Dr : D ≠ r) (k : Kp r H2 H5) : Kp r H2 (upd H5 D o) := ⟨fun b u nb e => by
  rw [upd_ne (ne_of_none e nD)]
  exact k.1 _ _ nb e, fun c l e => by
  obtain ⟨l', e'⟩ := k.2 c l e
  exact ⟨l', by rw [upd_ne Dr.symm]; exact e'⟩⟩
theorem sz {n : Nat} (h : n ≤ 100000) : n ≤ sizeLine := Nat.le_trans h (by decide)
theorem szl {n : Nat} (h : n < 100000) : n < sizeLine := Nat.lt_of_lt_of_le h (by decide)
theorem gcd_step {a b : Int} (h0 : 0 ≤ a) (hb : 0 ≤ b) : Int.gcd b (a % b) = Int.gcd a b := by
  rw [Int.gcd_eq_natAbs_gcd_natAbs, Int.gcd_eq_natAbs_gcd_natAbs, Int.natAbs_emod_of_nonneg h0, Nat.gcd_comm a.natAbs b.natAbs, Nat.gcd_rec b.natAbs a.natAbs, Nat.gcd_comm]
/-- a fraction in lowest terms -/
def red (n d : Int) : Int × Int := ((if d > 0 then 1 else -1) * n / (Int.gcd n d : Int), (if d > 0 then 1 else -1) * d / (Int.gcd n d : Int))
theorem gcd_posI {n d : Int} (hd : d ≠ 0) : (0 : Int) < (Int.gcd n d : Int) := by
  have : 0 < Int.gcd n d := Int.gcd_pos_of_ne_zero_right n hd
  omega
theorem sgn_cases (d : Int) : ((if d > 0 then (1 : Int) else -1) = 1 ∧ d > 0) ∨ ((if d > 0 then (1 : Int) else -1) = -1 ∧ ¬ d > 0) := by
  by_cases h : d > 0
  · exact .inl ⟨if_pos h, h⟩
  · exact .inr ⟨if_neg h, h⟩
theorem red_parts {n d : Int} (hd : d ≠ 0) : ∃ s g a b : Int, (s = 1 ∨ s = -1) ∧ 0 < g ∧ g = (Int.gcd n d : Int) ∧ s * n = g * a ∧ s * d = g * b ∧ 0 < b ∧ red n d = (a, b) ∧ Int.gcd a b = 1 := by
  have g0 := gcd_posI (n := n) hd
  obtain ⟨u, hu⟩ := Int.gcd_dvd_left n d
  obtain ⟨v, hv⟩ := Int.gcd_dvd_right n d
  have hg : Int.gcd u v = 1 := by
    have h1 : Int.gcd n d = (Int.gcd n d) * Int.gcd u v := by
      have e := Int.gcd_mul_left (Int.gcd n d : Int) u v
      rw [← hu, ← hv] at e
      simpa using e
    have h2 : 0 < Int.gcd n d := by omega
    have h3 : Int.gcd n d * 1 = Int.gcd n d * Int.gcd u v := by omega
    exact (Nat.eq_of_mul_eq_mul_left h2 h3).symm
  generalize hG : (Int.gcd n d : Int) = g at *
  have key : ∀ s : Int, (s = 1 ∨ s = -1) → Int.gcd (s * u) (s * v) = 1 := by
    intro s hs
    rcases hs with rfl | rfl
    · simpa using hg
    · simpa using hg
  have div : ∀ s w x : Int, x = g * w → s * x / g = s * w := by
    intro s w x e
    rw [e, show s * (g * w) = g * (s * w) by rw [← Int.mul_assoc, Int.mul_comm s g, Int.mul_assoc]]
    exact Int.mul_ediv_cancel_left _ (by omega)
  rcases sgn_cases d with ⟨e, h⟩ | ⟨e, h⟩
  · refine ⟨1, g, 1 * u, 1 * v, .inl rfl, g0, rfl, ?_, ?_, ?_, ?_, key 1 (.inl rfl)⟩
    · rw [hu]; simp
    · rw [hv]; simp
    · have : 0 < g * v := by omega
      have := Int.pos_of_mul_pos_right this (by omega)
      omega
    · unfold red
      rw [e, hG, div 1 u n hu, div 1 v d hv]
  · refine ⟨-1, g, -1 * u, -1 * v, .inr rfl, g0, rfl, ?_, ?_, ?_, ?_, key (-1) (.inr rfl)⟩
    · rw [hu]; simp [Int.mul_neg]
    · rw [hv]; simp [Int.mul_neg]
    · have h4 : 0 < g * (-v) := by
        rw [Int.mul_neg]
        omega
      have := Int.pos_of_mul_pos_right h4 (by omega)
      omega
    · unfold red
      rw [e, hG, div (-1) u n hu, div (-1) v d hv]
theorem red_pos {n d : Int} (hd : d ≠ 0) : 0 < (red n d).2 := by
  obtain ⟨s, g, a, b, _, _, _, _, _, hb, e, _⟩ := red_parts (n := n) hd
  rw [e]; exact hb
theorem red_gcd {n d : Int} (hd : d ≠ 0) : Int.gcd (red n d).1 (red n d).2 = 1 := by
  obtain ⟨s, g, a, b, _, _, _, _, _, hb, e, hg⟩ := red_parts (n := n) hd
  rw [e]; exact hg
theorem red_eq {n d : Int} (hd : d ≠ 0) : (red n d).1 * d = n * (red n d).2 := by
  obtain ⟨s, g, a, b, hs, g0, _, h1, h2, hb, e, hg⟩ := red_parts (n := n) hd
  rw [e]
  show a * d = n * b
  have hs2 : s ≠ 0 := by omega
  apply Int.eq_of_mul_eq_mul_left (a := s * g) (by
    intro z
    rcases Int.mul_eq_zero.mp z with z | z <;> omega)
  calc s * g * (a * d) = (g * a) * (s * d) := by simp only [Int.mul_assoc, Int.mul_comm, Int.mul_left_comm]
    _ = (s * n) * (g * b) := by rw [h1, h2]
    _ = s * g * (n * b) := by simp only [Int.mul_assoc, Int.mul_comm, Int.mul_left_comm]
theorem natAbs_sgn {s n : Int} (hs : s = 1 ∨ s = -1) : (s * n).natAbs = n.natAbs := by
  rcases hs with rfl | rfl
  · simp
  · simp
theorem red_le1 {n d : Int} (hd : d ≠ 0) : (red n d).1.natAbs ≤ n.natAbs := by
  obtain ⟨s, g, a, b, hs, g0, _, h1, h2, hb, e, hg⟩ := red_parts (n := n) hd
  rw [e, ← natAbs_sgn (n := n) hs, h1, Int.natAbs_mul]
  exact Nat.le_mul_of_pos_left _ (by omega)
theorem red_le2 {n d : Int} (hd : d ≠ 0) : (red n d).2.natAbs ≤ d.natAbs := by
  obtain ⟨s, g, a, b, hs, g0, _, h1, h2, hb, e, hg⟩ := red_parts (n := n) hd
  rw [e, ← natAbs_sgn (n := d) hs, h2, Int.natAbs_mul]
  exact Nat.le_mul_of_pos_left _ (by omega)
theorem dvd_cop {x y z : Int} (h : x ∣ y * z) (g : Int.gcd x z = 1) : x ∣ y := by
  rw [← Int.natAbs_dvd_natAbs, Int.natAbs_mul] at h
  rw [← Int.natAbs_dvd_natAbs]
  exact Nat.Coprime.dvd_of_dvd_mul_right g h
theorem low_unique {a b c e : Int} (hb : 0 < b) (he : 0 < e) (g1 : Int.gcd a b = 1) (g2 : Int.gcd c e = 1) (h : a * e = c * b) : a = c ∧ b = e := by
  have d1 : b ∣ e := by
    have : b ∣ e * a := ⟨c, by rw [Int.mul_comm e a, h, Int.mul_comm]⟩
    exact dvd_cop this (by rw [Int.gcd_comm]; exact g1)
  have d2 : e ∣ b := by
    have : e ∣ b * c := ⟨a, by rw [Int.mul_comm b c, ← h, Int.mul_comm]⟩
    exact dvd_cop this (by rw [Int.gcd_comm]; exact g2)
  have hbe : b = e := Int.dvd_antisymm (by omega) (by omega) d1 d2
  subst hbe
  exact ⟨Int.eq_of_mul_eq_mul_right (by omega) h, rfl⟩
theorem red_unique {n d a b : Int} (hd : d ≠ 0) (hb : 0 < b) (g : Int.gcd a b = 1) (h : a * d = n * b) : red n d = (a, b) := by
  have h1 := red_eq (n := n) hd
  have h2 : (red n d).1 * b = a * (red n d).2 := by
    apply Int.eq_of_mul_eq_mul_right hd
    calc (red n d).1 * b * d = ((red n d).1 * d) * b := by simp only [Int.mul_assoc, Int.mul_comm, Int.mul_left_comm]
      _ = (n * b) * (red n d).2 := by rw [h1]; simp only [Int.mul_assoc, Int.mul_comm, Int.mul_left_comm]
      _ = a * (red n d).2 * d := by rw [← h]; simp only [Int.mul_assoc, Int.mul_comm, Int.mul_left_comm]
  obtain ⟨e1, e2⟩ := low_unique (red_pos (n := n) hd) hb (red_gcd hd) g h2
  exact Prod.ext e1 e2
theorem red_self {n d : Int} (hd : 0 < d) (g : Int.gcd n d = 1) : red n d = (n, d) := red_unique (by omega) hd g rfl

/-- the fraction n / d, as a tuple -/
def Fr (K : PySem.W.Frag) (H : Hp) (v : V) (n d : Int) : Prop := ∃ p, v = .ref p ∧ SqT K H p [.int n, .int d]
theorem RgT {K : PySem.W.Frag} {H H' : Hp} {r p : Addr} {xs : List V} (R : Rg H r) (k : Kp r H H') (h : SqT K H p xs) : SqT K H' p xs := by
  obtain ⟨c, ns, i, x, kk, R⟩ := R
  rcases h with (h | ⟨o, h⟩) | h
  · exact .inl (.inl (k.1 _ _ (ne_of h R.hr (fun z => by cases z)) h))
  · exact .inl (.inr ⟨o, k.1 _ _ (ne_of h R.hr (fun z => by cases z)) h⟩)
  · exact .inr h
theorem Fr.kp {K : PySem.W.Frag} {H H' : Hp} {r : Addr} {v : V} {n d : Int} (f : Fr K H v n d) (R : Rg H r) (k : Kp r H H') : Fr K H' v n d := by
  obtain ⟨p, e, h⟩ := f
  exact ⟨p, e, RgT R k h⟩
theorem Fr.same {K : PySem.W.Frag} {H H' : Hp} {v : V} {n d : Int} (f : Fr K H v n d) (k : Same H H') : Fr K H' v n d := by
  obtain ⟨p, e, h⟩ := f
  exact ⟨p, e, Same.T k h⟩
theorem Fr.new {K : PySem.W.Frag} {H : Hp} {p : Addr} {n d : Int} : Fr K (upd H p (.tup [.int n, .int d])) (.ref p) n d := ⟨p, rfl, SqT.of upd_same⟩
/-- a fraction of the law's own: lowest terms, its size -/
structure FrB (K : PySem.W.Frag) (H : Hp) (v : V) (n d : Int) (B : Nat) : Prop where
  fr : Fr K H v n d
  d0 : 0 < d
  g : Int.gcd n d = 1
  nB : n.natAbs < 2 ^ B
  dB : d.natAbs < 2 ^ B
theorem FrB.kp {K : PySem.W.Frag} {H H' : Hp} {r : Addr} {v : V} {n d : Int} {B : Nat} (f : FrB K H v n d B) (R : Rg H r) (k : Kp r H H') : FrB K H' v n d B := ⟨f.fr.kp R k, f.d0, f.g, f.nB, f.dB⟩
theorem FrB.same {K : PySem.W.Frag} {H H' : Hp} {v : V} {n d : Int} {B : Nat} (f : FrB K H v n d B) (k : Same H H') : FrB K H' v n d B := ⟨f.fr.same k, f.d0, f.g, f.nB, f.dB⟩
theorem red_B {K : PySem.W.Frag} {H : Hp} {p : Addr} {n d : Int} {B : Nat} (hd : d ≠ 0) (h1 : n.natAbs < 2 ^ B) (h2 : d.natAbs < 2 ^ B) : FrB K (upd H p (.tup [.int (red n d).1, .int (red n d).2])) (.ref p) (red n d).1 (red n d).2 B :=
  ⟨Fr.new, red_pos hd, red_gcd hd, Nat.lt_of_le_of_lt (red_le1 hd) h1, Nat.lt_of_le_of_lt (red_le2 hd) h2⟩
theorem log2_lt {j : Int} {b : Nat} (hb : j.natAbs < 2 ^ b) (h0 : 0 < b) (h9 : b ≤ 9000) : j.natAbs.log2 < 9000 := Nat.lt_of_lt_of_le (PySem.Flt.log2_lt_of h0 hb) h9
/-! ### equal data -/
def atom : V → Bool
  | .non => true | .bl _ => true | .int _ => true | .str _ => true | _ => false
def Eqd (K : PySem.W.Frag) (H : Hp) : Nat → V → V → Prop
  | 0, x, y => x = y ∧ atom x = true
  | n + 1, x, y => (x = y ∧ atom x = true) ∨ ∃ a b xs ys, x = .ref a ∧ y = .ref b ∧ ((SqL K H a xs ∧ SqL K H b ys) ∨ (SqT K H a xs ∧ SqT K H b ys)) ∧ xs.length = ys.length ∧ xs.length ≤ 100000 ∧ ∀ (i : Nat) u v, xs[i]? = some u → ys[i]? = some v → Eqd K H n u v
theorem Eqd.same {K : PySem.W.Frag} {H H' : Hp} (s : Same H H') : ∀ {n : Nat} {x y : V}, Eqd K H n x y → Eqd K H' n x y
  | 0, _, _, h => h
  | n + 1, _, _, .inl h => .inl h
  | n + 1, _, _, .inr ⟨a, b, xs, ys, e1, e2, h, l, l2, k⟩ => .inr ⟨a, b, xs, ys, e1, e2, h.elim (fun z => .inl ⟨s.seq z.1, s.seq z.2⟩) (fun z => .inr ⟨Same.T s z.1, Same.T s z.2⟩), l, l2, fun i u v hu hv => Eqd.same s (k i u v hu hv)⟩
theorem Eqd.up {K : PySem.W.Frag} {H : Hp} : ∀ {n : Nat} {x y : V}, Eqd K H n x y → Eqd K H (n + 1) x y
  | 0, _, _, h => .inl h
  | n + 1, _, _, .inl h => .inl h
  | n + 1, _, _, .inr ⟨a, b, xs, ys, e1, e2, h, l, l2, k⟩ => .inr ⟨a, b, xs, ys, e1, e2, h, l, l2, fun i u v hu hv => Eqd.up (k i u v hu hv)⟩
theorem Eqd.mono {K : PySem.W.Frag} {H : Hp} {n m : Nat} {x y : V} (h : Eqd K H n x y) (l : n ≤ m) : Eqd K H m x y := by
  induction l with
  | refl => exact h
  | step _ ih => exact ih.up
theorem Eqd.atom {K : PySem.W.Frag} {H : Hp} {n : Nat} {x : V} (h : atom x = true) : Eqd K H n x x := by
  cases n with
  | zero => exact ⟨rfl, h⟩
  | succ n => exact .inl ⟨rfl, h⟩
theorem all2_nil {R : V → V → Prop} : ∀ (i : Nat) u v, ([] : List V)[i]? = some u → ([] : List V)[i]? = some v → R u v := fun i u v h => by cases h
theorem all2_cons {R : V → V → Prop} {x y : V} {xs ys : List V} (h : R x y) (k : ∀ (i : Nat) u v, xs[i]? = some u → ys[i]? = some v → R u v) : ∀ (i : Nat) u v, (x :: xs)[i]? = some u → (y :: ys)[i]? = some v → R u v
  | 0, u, v, h1, h2 => by cases h1; cases h2; exact h
  | i + 1, u, v, h1, h2 => k i u v h1 h2
theorem Eqd.lst {K : PySem.W.Frag} {H : Hp} {n : Nat} {a b : Addr} {xs ys : List V} (h1 : SqL K H a xs) (h2 : SqL K H b ys) (l : xs.length = ys.length) (l2 : xs.length ≤ 100000) (k : ∀ (i : Nat) u v, xs[i]? = some u → ys[i]? = some v → Eqd K H n u v) : Eqd K H (n + 1) (.ref a) (.ref b) :=
  .inr ⟨a, b, xs, ys, rfl, rfl, .inl ⟨h1, h2⟩, l, l2, k⟩
theorem Eqd.tup {K : PySem.W.Frag} {H : Hp} {n : Nat} {a b : Addr} {xs ys : List V} (h1 : SqT K H a xs) (h2 : SqT K H b ys) (l : xs.length = ys.length) (l2 : xs.length ≤ 100000) (k : ∀ (i : Nat) u v, xs[i]? = some u → ys[i]? = some v → Eqd K H n u v) : Eqd K H (n + 1) (.ref a) (.ref b) :=
  .inr ⟨a, b, xs, ys, rfl, rfl, .inr ⟨h1, h2⟩, l, l2, k⟩
theorem tyL {K : PySem.W.Frag} {H : Hp} {a : Addr} {xs : List V} (h : SqL K H a xs) : TyX K H (.ref a) (.type "list") := by
  rcases h with (h | ⟨o, h⟩) | ⟨o, its, n, h, c, _⟩
  · exact .base (.lst h)
  · exact .base (.frz h)
  · exact .kList h c
theorem tyT {K : PySem.W.Frag} {H : Hp} {a : Addr} {xs : List V} (h : SqT K H a xs) : TyX K H (.ref a) (.type "tuple") := by
  rcases h with (h | ⟨o, h⟩) | ⟨o, its, n, h, c, _⟩
  · exact .base (.tup h)
  · exact .fTuple h
  · exact .kTuple h c
theorem rd_isi {K : PySem.W.Frag} {H : Hp} {x : V} {t c : String} {b : Bool} {Q : VK} (ty : TyX K H x (.type t)) (h : kitB t c = some b) (w : Q (.bl b) H) : rIsi K [x, .ty c] H Q := ⟨x, .ty c, .type t, .type c, b, rfl, .ty c, ty, kit_ty h, w⟩
theorem ifF {c : Bool} {A B : Prop} (hc : c = false) (h : B) : if c = true then A else B := by rw [hc, if_neg Bool.false_ne_true]; exact h
theorem ifT {c : Bool} {A B : Prop} (hc : c = true) (h : A) : if c = true then A else B := by rw [if_pos hc]; exact h
theorem fn_false {P : Program} {w : World} {K : PySem.W.Frag} {mg : Str → Option Value} {base : Heap} {CX : CXT} {k : Nat} {f : Addr} {fd : FuncData} {ps : List Str} : FnOk P w K mg base CX k f fd ps (fun _ _ _ _ => False) :=
  ⟨fun _ _ _ _ h => h.elim, fun _ _ _ _ _ _ _ _ _ _ _ _ _ h => h.elim⟩
theorem tYes_if {σ : L2.St} {H : Hp} {A B : Hp → Prop} (h : A H) : tYes σ H fun b H3 => if b = true then A H3 else B H3 := by
  show (if true = true then A H else B H)
  rw [if_pos rfl]
  exact h
/-! ### f(k = v, ..), nothing by position -/
def tCallN0 (m : Nat) (sp : Sp) (gV : List V → List V → List V) (E : XK) (tk : TA) : TE := fun σ H Q => tk σ H fun zs H2 => zs.length = m ∧ sp (gV [] zs) H2 Q E
theorem pe_callN0 {X : Cx} {CX : CXT} {k : Nat} {f : Addr} {fd : FuncData} {ps ks : List Str} {sp : Sp} {E : XK} {x : Str} {p pos : Pos} {kws : List Keyword} {tk : TA} {g : List Value → List Value → List Value} {gV : List V → List V → List V}
    (F : FnOk X.prog X.w X.K X.mg X.base CX k f fd ps sp) (hr : Room k X.A) (hg : Gl X x) (hm : X.mg x = some (.ref f)) (hk : PySem.W.keepIn X.K (.ref f) = true) (hb : KBn X.K fd ps 0 ks g gV) (hx : Passes CX X E)
    (hkw : PK X kws tk) (hall : (backToKw pos (keywordEach kws X.env)).all (·.1.isSome) = true := by rfl) (hks : (backToKw pos (keywordEach kws X.env)).filterMap (·.1) = ks := by rfl)
    (hdb : (x == ("__debug__" : Str)) = false := by decide) (hpl : ((backTo pos (starEach [] X.env)).any (·.1) || (backToKw pos (keywordEach kws X.env)).any (·.1.isNone)) = false := by rfl) :
    PE X (.Call (.Name x p) [] kws pos) (tCallN0 ks.length sp gV E tk) := by
  refine ⟨fun pins s σ H Q I h => ?_⟩
  refine wpAny_Call_Name_kw (ld_glob I hg hm ?_ hdb)
  refine PySem.W.callWith_KW0 (h₀ := X.base) I.ok.mod.kin hk hall (thn (hkw.run pos pins s σ H _ I h) fun ws s2 ⟨zs, H2, I2, rz, l2, q2⟩ => ⟨I2.kIn, ?_⟩) hpl
  rw [hks]
  exact run_fnN (us := []) (vs := []) F hr hb hx I2 .nil rz rfl l2 q2

/-! ### names -/
def kws4 : List V := [.str "max", .str "min", .str "median", .str "mix"]
def lowB (c : Nat) : Bool := decide (97 ≤ c) && decide (c ≤ 122)
def nameB (z : Str) : Bool := (decide (1 ≤ z.length) && decide (z.length ≤ 6)) && (z.cps.toList.all lowB && !inV (.str z) kws4)
theorem one_lt {c d : Nat} : ([c] < [d]) ↔ c < d := by simp [List.cons_lt_cons_iff]
theorem str_a : (("a" : Str)).cps.toList = [97] := by decide +kernel
theorem str_z : (("z" : Str)).cps.toList = [122] := by decide +kernel
theorem le_a {c : Nat} : (!decide ((⟨#[c]⟩ : Str).cps.toList < ("a" : Str).cps.toList)) = decide (97 ≤ c) := by
  rw [str_a]
  show (!decide ([c] < [97])) = _
  by_cases h : c < 97
  · rw [decide_eq_true (one_lt.mpr h), decide_eq_false (by omega)]; rfl
  · rw [decide_eq_false (fun z => h (one_lt.mp z)), decide_eq_true (by omega)]; rfl
theorem le_z {c : Nat} : (!decide (("z" : Str).cps.toList < (⟨#[c]⟩ : Str).cps.toList)) = decide (c ≤ 122) := by
  rw [str_z]
  show (!decide ([122] < [c])) = _
  by_cases h : 122 < c
  · rw [decide_eq_true (one_lt.mpr h), decide_eq_false (by omega)]; rfl
  · rw [decide_eq_false (fun z => h (one_lt.mp z)), decide_eq_true (by omega)]; rfl
theorem abc_mem {c : Nat} : decide (c ∈ (("abcdefghijklmnopqrstuvwxyz" : Str)).cps.toList) = lowB c := by
  have e : (("abcdefghijklmnopqrstuvwxyz" : Str)).cps.toList = (List.range 26).map (· + 97) := by decide +kernel
  rw [e]
  unfold lowB
  by_cases h : 97 ≤ c ∧ c ≤ 122
  · rw [decide_eq_true h.1, decide_eq_true h.2]
    exact decide_eq_true (List.mem_map.mpr ⟨c - 97, by rw [List.mem_range]; omega, by omega⟩)
  · have z : (decide (97 ≤ c) && decide (c ≤ 122)) = false := by
      cases h1 : decide (97 ≤ c) <;> cases h2 : decide (c ≤ 122)
      · rfl
      · rfl
      · rfl
      · exact absurd ⟨of_decide_eq_true h1, of_decide_eq_true h2⟩ h
    rw [z]
    refine decide_eq_false fun hm => ?_
    obtain ⟨x, hx, e⟩ := List.mem_map.mp hm
    rw [List.mem_range] at hx
    omega
theorem tk_more {α β : Type} {f : α → β} {l : List α} {i : Nat} {c : α} (h : l[i]? = some c) : ((l.take (i + 1)).map f) = (l.take i).map f ++ [f c] := by
  rw [List.take_add_one, h, List.map_append]
  rfl
theorem cps_len (z : Str) : z.cps.toList.length = z.length := by simp [Str.length]

def topS (i : Nat) : Stmt := PySem.Challenge.pw_gaithold_k06_valid_names.main.body.getD i (.Pass ⟨0, 0, 0, 0⟩)
abbrev s_p_is_valid_name : Stmt := topS 3
theorem sc_p_is_valid_name : FnScope ["thing", "letter"] ["thing"] (defScope s_p_is_valid_name) := ⟨rfl, rfl, rfl, by decide +kernel, rfl, by decide +kernel, by decide +kernel⟩
abbrev s_l_source : Stmt := topS 5
theorem sc_l_source : FnScope ["_law_script", "_law_knot", "_law_cell"] ["_law_script"] (defScope s_l_source) := ⟨rfl, rfl, rfl, by decide +kernel, rfl, by decide +kernel, by decide +kernel⟩
abbrev s_l_draw : Stmt := topS 6
theorem sc_l_draw : FnScope ["_law_rng", "_law_quantity", "_law_cell", "_law_got", "_law_seed"] ["_law_rng", "_law_quantity"] (defScope s_l_draw) := ⟨rfl, rfl, rfl, by decide +kernel, rfl, by decide +kernel, by decide +kernel⟩
abbrev s_l_choice : Stmt := topS 7
theorem sc_l_choice : FnScope ["_law_rng", "_law_some"] ["_law_rng", "_law_some"] (defScope s_l_choice) := ⟨rfl, rfl, rfl, by decide +kernel, rfl, by decide +kernel, by decide +kernel⟩
abbrev s_l_equal : Stmt := topS 8
theorem sc_l_equal : FnScope ["_law_result", "_law_expected", "_law_one", "_law_other"] ["_law_result", "_law_expected"] (defScope s_l_equal) := ⟨rfl, rfl, rfl, by decide +kernel, rfl, by decide +kernel, by decide +kernel⟩
abbrev s_l_letters : Stmt := topS 9
theorem sc_l_letters : FnScope [] [] (defScope s_l_letters) := ⟨rfl, rfl, rfl, by decide +kernel, rfl, by decide +kernel, by decide +kernel⟩
abbrev s_l_is_name : Stmt := topS 10
theorem sc_l_is_name : FnScope ["_law_text", "_law_sign"] ["_law_text"] (defScope s_l_is_name) := ⟨rfl, rfl, rfl, by decide +kernel, rfl, by decide +kernel, by decide +kernel⟩
abbrev s_l_mutate_text : Stmt := topS 11
theorem sc_l_mutate_text : FnScope ["_law_rng", "_law_text", "_law_signs", "_law_pos", "_law_pick", "_law_sign", "_law_some"] ["_law_rng", "_law_text", "_law_signs"] (defScope s_l_mutate_text) := ⟨rfl, rfl, rfl, by decide +kernel, rfl, by decide +kernel, by decide +kernel⟩
abbrev s_p_law : Stmt := topS 12
theorem sc_p_law : FnScope ["_law_script", "_law_rng", "_law_turn", "_law_some", "_law_words", "_law_text", "_law_k"] ["_law_script"] (defScope s_p_law) := ⟨rfl, rfl, rfl, by decide +kernel, rfl, by decide +kernel, by decide +kernel⟩
def kg_p_is_valid_name_0_thing {α : Type} : List α → List α → List α
  | [], [w0] => [w0]
  | _, _ => []
theorem kgr_p_is_valid_name_0_thing : ∀ {vs : List V} {us : List Value} {zs : List V} {ws : List Value}, Vals vs us → Vals zs ws → Vals (kg_p_is_valid_name_0_thing vs zs) (kg_p_is_valid_name_0_thing us ws) := by
  intro vs us zs ws r1 r2
  cases r1 with
  | cons _ _ => first | exact .nil | (cases r2 <;> exact .nil)
  | nil =>
  cases r2 with
  | nil => exact .nil
  | cons hw0 q2_0 =>
  cases q2_0 with
  | cons _ _ => exact .nil
  | nil =>
  exact (.cons hw0 .nil)
structure Ad where
  f_p_is_valid_name : Addr
  fd_p_is_valid_name : FuncData
  f_l_source : Addr
  fd_l_source : FuncData
  f_l_draw : Addr
  fd_l_draw : FuncData
  f_l_choice : Addr
  fd_l_choice : FuncData
  f_l_equal : Addr
  fd_l_equal : FuncData
  f_l_letters : Addr
  fd_l_letters : FuncData
  f_l_is_name : Addr
  fd_l_is_name : FuncData
  f_l_mutate_text : Addr
  fd_l_mutate_text : FuncData
  f_p_law : Addr
  fd_p_law : FuncData
  o_KEYWORDS : Addr
  tk_MAX_NAME : Tok
structure Txt (K : PySem.W.Frag) (mg : Str → Option Value) (a : Ad) : Prop where
  F_p_is_valid_name : Fun K "is_valid_name" "is_valid_name" s_p_is_valid_name a.f_p_is_valid_name a.fd_p_is_valid_name
  g_p_is_valid_name : mg "is_valid_name" = some (.ref a.f_p_is_valid_name)
  b_p_is_valid_name : Binds K a.fd_p_is_valid_name ["thing"] []
  F_l_source : Fun K "_law_source" "_law_source" s_l_source a.f_l_source a.fd_l_source
  g_l_source : mg "_law_source" = some (.ref a.f_l_source)
  b_l_source : Binds K a.fd_l_source ["_law_script"] []
  F_l_draw : Fun K "_law_draw" "_law_draw" s_l_draw a.f_l_draw a.fd_l_draw
  g_l_draw : mg "_law_draw" = some (.ref a.f_l_draw)
  b_l_draw : Binds K a.fd_l_draw ["_law_rng", "_law_quantity"] []
  F_l_choice : Fun K "_law_choice" "_law_choice" s_l_choice a.f_l_choice a.fd_l_choice
  g_l_choice : mg "_law_choice" = some (.ref a.f_l_choice)
  b_l_choice : Binds K a.fd_l_choice ["_law_rng", "_law_some"] []
  F_l_equal : Fun K "_law_equal" "_law_equal" s_l_equal a.f_l_equal a.fd_l_equal
  g_l_equal : mg "_law_equal" = some (.ref a.f_l_equal)
  b_l_equal : Binds K a.fd_l_equal ["_law_result", "_law_expected"] []
  F_l_letters : Fun K "_law_letters" "_law_letters" s_l_letters a.f_l_letters a.fd_l_letters
  g_l_letters : mg "_law_letters" = some (.ref a.f_l_letters)
  b_l_letters : Binds K a.fd_l_letters [] []
  F_l_is_name : Fun K "_law_is_name" "_law_is_name" s_l_is_name a.f_l_is_name a.fd_l_is_name
  g_l_is_name : mg "_law_is_name" = some (.ref a.f_l_is_name)
  b_l_is_name : Binds K a.fd_l_is_name ["_law_text"] []
  F_l_mutate_text : Fun K "_law_mutate_text" "_law_mutate_text" s_l_mutate_text a.f_l_mutate_text a.fd_l_mutate_text
  g_l_mutate_text : mg "_law_mutate_text" = some (.ref a.f_l_mutate_text)
  b_l_mutate_text : Binds K a.fd_l_mutate_text ["_law_rng", "_law_text", "_law_signs"] []
  F_p_law : Fun K "law" "law" s_p_law a.f_p_law a.fd_p_law
  g_p_law : mg "law" = some (.ref a.f_p_law)
  b_p_law : Binds K a.fd_p_law ["_law_script"] []
  n_all : mg "all" = none
  n_isinstance : mg "isinstance" = none
  n_str : mg "str" = none
  n_len : mg "len" = none
  n_list : mg "list" = none
  n_tuple : mg "tuple" = none
  n_bool : mg "bool" = none
  n_int : mg "int" = none
  n_zip : mg "zip" = none
  n_range : mg "range" = none
  c_KEYWORDS : mg "KEYWORDS" = some (.ref a.o_KEYWORDS)
  t_KEYWORDS : ∀ H, SqT K H a.o_KEYWORDS [(.str "max"), (.str "min"), (.str "median"), (.str "mix")]
  c_MAX_NAME : mg "MAX_NAME" = some (.int 6 a.tk_MAX_NAME)
  kb_p_is_valid_name_0_thing : ∃ g, KBn K a.fd_p_is_valid_name ["thing"] 0 ["thing"] g kg_p_is_valid_name_0_thing

section
variable {P : Program} {w : World} {K : PySem.W.Frag} {mg : Str → Option Value} {base : Heap} {a : Ad}
def sp_p_is_valid_name (K : PySem.W.Frag) : Sp := fun vs H Q _ => ∃ v, vs = [v] ∧ ((∃ z : Str, v = .str z ∧ z.length ≤ 100000 ∧ ∀ H', Same H H' → Q (.bl (nameB z)) H') ∨ ∃ t, TyX K H v (.type t) ∧ kitB t "str" = some false ∧ Q (.bl false) H)

theorem ok_p_is_valid_name (T : Txt K mg a) : FnOk P w K mg base CX0 1 a.f_p_is_valid_name a.fd_p_is_valid_name ["thing"] (sp_p_is_valid_name K) := by
  refine T.F_p_is_valid_name.ok sc_p_is_valid_name (fun vs H Q E h => ?_) (fun cdv A outer s H vs Q E hr h => ?_)
  · obtain ⟨v, rfl, _⟩ := h
    rfl
  · obtain ⟨v, rfl, h⟩ := h
    refine ⟨_, (pss_cons (ps_if (PW.pt (pw_or (pt_not (pt_val (pe_callB call_isi (by rfl) T.n_isinstance (by decide +kernel) (pa_cons (pv 0) (pa_cons (pe_bltn (v := .ty "str") (by rfl) T.n_str (by decide +kernel) rfl) pa_nil))))) (pw_or1 (pt_not (pt_chain op_le op_le pe_int (pe_callB call_len (by rfl) T.n_len (by decide +kernel) (pa_cons (pv 0) pa_nil)) (pe_glob (v := .int 6) (by rfl) T.c_MAX_NAME ⟨_, rfl⟩)))))) (pss_one (ps_ret pe_bl)) pss_nil)
          (pss_one (ps_ret (pe_and (pe_callB (cr_all rfl) (by rfl) T.n_all (by decide +kernel) (pa_cons (pe_lc (own := [("letter", 1)]) (g := gName 1) rfl sc_p_is_valid_name.nd (pi_str (pv 0)) (blkOk_by (own := [("letter", 1)]) (N := ["thing", "letter"]) (sc := defScope s_p_is_valid_name) (by decide +kernel)) (fun _ _ _ _ _ => (pg_name (i := 1) sc_p_is_valid_name.nd rfl (Or.inl rfl))) (fun _ _ _ _ _ => pts_nil) (fun _ _ _ _ _ => (pe_chain op_le_str op_le_str pe_str (pv 1) pe_str))) pa_nil)) (pe_one (pe_cmpR op_notIn_seq (pv 0) (pe_glob (v := .ref a.o_KEYWORDS) (by rfl) T.c_KEYWORDS rfl) (by rfl))))))), ?_⟩
    rcases h with ⟨z, rfl, hz, w⟩ | ⟨t, ty, hk, w⟩
    rotate_left
    · exact ⟨v, rfl, _, _, _, _, _, rfl, .ty _, ty, kit_ty hk, false, rfl, iteT (iteT w)⟩
    refine ⟨.str z, rfl, _, _, _, _, true, rfl, .ty _, .base (.str z), kit_ty (by decide +kernel), true, rfl, iteF ?_⟩
    have no : nameB z = false → Q (.bl false) H := fun e => by
      have := w H (Same.refl H)
      rw [e] at this
      exact this
    refine ⟨.str z, rfl, .str z, z.length, rfl, ⟨sz hz, rfl⟩, 1, (z.length : Int), rfl, rfl, _, rfl, ite2 (fun e1 => ?_) (fun e1 => ?_)⟩
    rotate_left
    · refine ⟨false, rfl, iteT (no ?_)⟩
      have : ¬ 1 ≤ z.length := fun y => e1 (decide_eq_true (by omega))
      unfold nameB
      rw [decide_eq_false this]
      rfl
    have l1 : 1 ≤ z.length := by have := of_decide_eq_true e1; omega
    by_cases l2 : z.length ≤ 6
    rotate_left
    · refine ⟨(z.length : Int), 6, rfl, rfl, false, congrArg V.bl (decide_eq_false (by omega)), iteT (no ?_)⟩
      unfold nameB
      rw [decide_eq_true l1, decide_eq_false l2]
      rfl
    refine ⟨(z.length : Int), 6, rfl, rfl, true, congrArg V.bl (decide_eq_true (by omega)), iteF ?_⟩
    refine ⟨.str z, rfl, z, rfl, fun D nD => ?_⟩
    refine ⟨fun i m H1 => i + m = z.length ∧ Same H H1 ∧ H1 D = some (.lst (((z.cps.toList.take i).map lowB).map V.bl)), ⟨z.length, by omega, Same.new nD, by rw [upd_same]; rfl⟩, fun i m H1 hW => ?_⟩
    obtain ⟨em, s1, hD⟩ := hW
    by_cases hi : i < z.length
    · refine .inr ⟨(show i < z.cps.size from hi), fun H2 => Same H H2 ∧ H2 D = some (.lst (((z.cps.toList.take (i + 1)).map lowB).map V.bl)), fun H2 hN => ⟨m - 1, by omega, by omega, hN.1, hN.2⟩, fun v H2 hy => ?_⟩
      obtain ⟨rfl, c, hc, rfl⟩ := hy
      have hc2 : z.cps.toList[i]? = some c := by rw [Array.getElem?_toList]; exact hc
      have fin : ∀ b : Bool, b = lowB c → ∃ acc, H2 D = some (.lst acc) ∧ acc.length < sizeLine ∧ Same H (upd H2 D (.lst (acc ++ [V.bl b]))) ∧ (upd H2 D (.lst (acc ++ [V.bl b]))) D = some (.lst (((z.cps.toList.take (i + 1)).map lowB).map V.bl)) := by
        intro b hb
        refine ⟨_, hD, ?_, fun x o e => ?_, ?_⟩
        · rw [List.length_map, List.length_map, List.length_take]
          exact szl (by omega)
        · rw [upd_ne (ne_of_none e nD)]
          exact s1 _ _ e
        · rw [upd_same, hb, tk_more hc2, List.map_append]
          rfl
      refine ⟨rfl, tYes_if ?_⟩
      refine ⟨.str ⟨#[c]⟩, rfl, "a", ⟨#[c]⟩, rfl, rfl, _, rfl, ?_⟩
      rw [le_a]
      refine ite2 (fun e => ?_) (fun e => ?_)
      · refine ⟨⟨#[c]⟩, "z", rfl, rfl, ?_⟩
        refine fin _ ?_
        rw [le_z]
        unfold lowB
        rw [e, Bool.true_and]
      · refine fin _ ?_
        unfold lowB
        rw [Bool.eq_false_iff.mpr e]
        rfl
    · have ei : i = z.length := by omega
      subst ei
      refine .inl ⟨(show z.cps.size ≤ z.length from Nat.le_refl _), ?_⟩
      rw [show z.cps.toList.take z.length = z.cps.toList by rw [← cps_len, List.take_length]] at hD
      refine ⟨D, z.cps.toList.map lowB, rfl, SqL.of hD, _, rfl, ?_⟩
      have ea : (z.cps.toList.map lowB).all id = z.cps.toList.all lowB := by rw [List.all_map]; rfl
      rw [ea]
      refine ite2 (fun e => ?_) (fun e => ?_)
      · refine ⟨.str z, rfl, a.o_KEYWORDS, kws4, rfl, .inr (T.t_KEYWORDS H1), rfl, rfl, ?_⟩
        have := w H1 s1
        unfold nameB at this
        rw [decide_eq_true l1, decide_eq_true l2, e] at this
        exact this
      · have := w H1 s1
        unfold nameB at this
        rw [decide_eq_true l1, decide_eq_true l2, Bool.eq_false_iff.mpr e] at this
        exact this
end
section
variable {P : Program} {w : World} {K : PySem.W.Frag} {mg : Str → Option Value} {base : Heap} {a : Ad}
def sp_l_source (K : PySem.W.Frag) : Sp := fun vs H Q _ => ∃ (b : Addr) (ns : List Int), vs = [.ref b] ∧ SqL K H b (ns.map V.int) ∧ ns.length ≤ 63 ∧ ∀ H' r, Same H H' → H r = none → Rg H' r → Q (.ref r) H'
theorem cut63 {xs : List V} (h : xs.length ≤ 63) : cutV xs none (some 63) = xs := by
  unfold cutV
  rw [HT.sIx_none, show HT.sIx xs.length xs.length (some 63) = min 63 xs.length from HT.sIx_nat xs.length xs.length 63]
  rw [List.drop_zero, show min 63 xs.length - 0 = xs.length by omega, List.take_length]

theorem ok_l_source (T : Txt K mg a) : FnOk P w K mg base CX0 1 a.f_l_source a.fd_l_source ["_law_script"] (sp_l_source K) := by
  refine T.F_l_source.ok sc_l_source (fun vs H Q E h => ?_) (fun cdv A outer s H vs Q E hr h => ?_)
  · obtain ⟨b, ns, rfl, _⟩ := h
    rfl
  · obtain ⟨b, ns, rfl, hS, hlen, w⟩ := h
    refine ⟨_, (pss_cons (ps_set (i := 1) sc_l_source.nd rfl (by first | exact Or.inl rfl | exact Or.inr rfl) (pe_op op_add pe_int (pe_op op_mul pe_int (pe_callB call_len (by rfl) T.n_len (by decide +kernel) (pa_cons (pe_slice sl_list (pv 0) po_none (po_some pe_int)) pa_nil)))))
          (pss_cons (ps_for PassesOwn.never rfl (pi_list (pe_slice sl_list (pv 0) po_none (po_some pe_int))) (pg_name (i := 2) sc_l_source.nd rfl (by first | exact Or.inl rfl | exact Or.inr rfl)) (pss_one (ps_set (i := 1) sc_l_source.nd rfl (by first | exact Or.inl rfl | exact Or.inr rfl) (pe_op op_mod (pe_op op_add (pe_op op_add (pe_op op_mul (pv 1) pe_int) (pe_op op_mod (pv 2) pe_int)) pe_int) pe_int))))
          (pss_one (ps_ret (pe_lst (pa_cons (pe_callTy call_list_of (by rfl) T.n_list (by decide +kernel) (pa_cons (pe_slice sl_list (pv 0) po_none (po_some pe_int)) pa_nil)) (pa_cons pe_int (pa_cons pe_int (pa_cons (pv 1) pa_nil))))))))), ?_⟩
    have hl : (ns.map V.int).length ≤ 63 := by rw [List.length_map]; exact hlen
    refine ⟨.ref b, rfl, 63, rfl, b, _, rfl, hS, fun p np => ?_⟩
    rw [cut63 hl]
    have s1 : Same H (upd H p (.lst (ns.map V.int))) := Same.new np
    refine ⟨.ref p, ns.length, rfl, .inl ⟨_, SqL.of upd_same, by simp⟩, 67, _, rfl, rfl, .inl ⟨by decide, by decide⟩, 9472, _, rfl, rfl, ?_⟩
    refine ⟨.ref b, rfl, 63, rfl, b, _, rfl, s1.seq hS, fun p2 np2 => ?_⟩
    rw [cut63 hl]
    have s2 : Same H (upd (upd H p (.lst (ns.map V.int))) p2 (.lst (ns.map V.int))) := s1.trans (Same.new np2)
    refine ⟨p2, rfl, ⟨_, SqL.of upd_same⟩, for_list (K := K) (a := p2) (xs := ns.map V.int) (fun i σ H' => ∃ k y, σ = [some (.ref b), some (.int k), y] ∧ 0 ≤ k ∧ k < 2147483563 ∧ H' = upd (upd H p (.lst (ns.map V.int))) p2 (.lst (ns.map V.int)))
      ⟨_, none, rfl, by omega, by omega, rfl⟩ (fun i σ H' _ ⟨_, _, _, _, _, e⟩ => by rw [e]; exact SqL.of upd_same) ?_ ?_⟩
    · rintro i y σ H' hi ⟨k, y', rfl, k0, k1, rfl⟩
      obtain ⟨z, hz, rfl⟩ : ∃ z, ns[i]? = some z ∧ y = V.int z := by
        rw [List.getElem?_map] at hi
        cases e : ns[i]? with
        | none => rw [e] at hi; cases hi
        | some z => rw [e] at hi; exact ⟨z, rfl, (Option.some.inj hi).symm⟩
      refine ⟨.int k, rfl, k, 40014, rfl, rfl, .inl ⟨by omega, by omega⟩, .int z, rfl, z, 2147483563, rfl, rfl, (show (0 : Int) < 2147483563 by decide), _, _, rfl, rfl, _, _, rfl, rfl, _, 2147483563, rfl, rfl, (show (0 : Int) < 2147483563 by decide), ?_⟩
      exact ⟨_, _, rfl, Int.emod_nonneg _ (by decide), Int.emod_lt_of_pos _ (by decide), rfl⟩
    · rintro σ H' ⟨k, y', rfl, k0, k1, rfl⟩
      refine ⟨.ref b, rfl, 63, rfl, b, _, rfl, s2.seq hS, fun p3 np3 => ?_⟩
      rw [cut63 hl]
      refine ⟨p3, _, rfl, .inl (SqL.of upd_same), fun l nl => ?_⟩
      refine ⟨.int k, rfl, sz (by show 4 ≤ 100000; decide), fun r nr => ?_⟩
      have s3 := s2.trans (Same.new (o := .lst (ns.map V.int)) np3)
      have s4 := s3.trans (Same.new (o := .lst (ns.map V.int)) nl)
      have s5 := s4.trans (Same.new (o := .lst [.ref l, .int 0, .int 0, .int k]) nr)
      refine w _ r s5 (s4.free nr) ⟨l, ns, 0, 0, k, upd_same, ?_, by omega, by omega, by omega, k0, k1⟩
      rw [upd_ne (fun z => by rw [z] at nl; rw [← z, upd_same] at nr; cases nr)]
      exact upd_same
end
section
variable {P : Program} {w : World} {K : PySem.W.Frag} {mg : Str → Option Value} {base : Heap} {a : Ad}
def sp_l_draw (_ : PySem.W.Frag) : Sp := fun vs H Q _ => ∃ (r : Addr) (q : Int), vs = [.ref r, .int q] ∧ Rg H r ∧ 0 < q ∧ q < 2 ^ 64 ∧ ∀ v H', 0 ≤ v → v < q → Kp r H H' → Rg H' r → Q (.int v) H'
theorem cell_at {ns : List Int} {i : Int} (h0 : 0 ≤ i) (h1 : i < (ns.length : Int)) : ∃ z, atI (ns.map V.int) i = some (V.int z) := by
  have e : i = ((i.toNat : Nat) : Int) := by omega
  have l : i.toNat < ns.length := by omega
  refine ⟨ns[i.toNat], ?_⟩
  have h : atI (ns.map V.int) ((i.toNat : Nat) : Int) = some (V.int ns[i.toNat]) := atI_nat (by simp [l])
  rw [← e] at h
  exact h
theorem div_ok {q : Int} (h : 0 < q) (h' : q < 2 ^ 64) (i : Int) : CDivW i q := wide_div (b := 64) h (by omega) (by decide) (by decide)

theorem ok_l_draw (T : Txt K mg a) : FnOk P w K mg base CX0 1 a.f_l_draw a.fd_l_draw ["_law_rng", "_law_quantity"] (sp_l_draw K) := by
  refine T.F_l_draw.ok sc_l_draw (fun vs H Q E h => ?_) (fun cdv A outer s H vs Q E hr h => ?_)
  · obtain ⟨r, q, rfl, _⟩ := h
    rfl
  · obtain ⟨r, q, rfl, ⟨c, ns, i, x, k, R⟩, q0, q1, w⟩ := h
    refine ⟨_, (C8.pss_cut (ps_if (PW.pt (pw_and (pt_cmpR op_eq (pe_ix ix_list (pv 0) pe_int (fun _ _ => rfl)) pe_int (nomark _)) (pw_and1 (pt_cmpR op_lt (pe_ix ix_list (pv 0) pe_int (fun _ _ => rfl)) (pe_callB call_len (by rfl) T.n_len (by decide +kernel) (pa_cons (pe_ix ix_list (pv 0) pe_int (fun _ _ => rfl)) pa_nil)) (nomark _))))) (pss_cons (ps_set (i := 2) sc_l_draw.nd rfl (by first | exact Or.inl rfl | exact Or.inr rfl) (pe_ix ix_list (pe_ix ix_list (pv 0) pe_int (fun _ _ => rfl)) (pe_ix ix_list (pv 0) pe_int (fun _ _ => rfl)) (fun _ _ => rfl)))
          (pss_cons (ps_asg (pe_op op_add (pe_ix ix_list (pv 0) pe_int (fun _ _ => rfl)) pe_int) (pg_sub (pv 0) pe_int set_list))
          (pss_one (ps_if (pt_cmpR op_ge (pv 2) (pe_op op_pow pe_int pe_int) (nomark _)) (pss_one (ps_asg (pv 2) (pg_sub (pv 0) pe_int set_list))) (pss_one (ps_asg (pe_op op_mod (pe_op op_add (pe_op op_add (pe_op op_mul (pe_ix ix_list (pv 0) pe_int (fun _ _ => rfl)) pe_int) (pe_op op_mul (pe_op op_mod (pv 2) pe_int) pe_int)) (pe_ix ix_list (pv 0) pe_int (fun _ _ => rfl))) pe_int) (pg_sub (pv 0) pe_int set_list))))))) pss_nil)
          (pss_cons (ps_if (pt_cmpR op_gt (pe_ix ix_list (pv 0) pe_int (fun _ _ => rfl)) pe_int (nomark _)) (pss_cons (ps_set (i := 3) sc_l_draw.nd rfl (by first | exact Or.inl rfl | exact Or.inr rfl) (pe_op op_mod (pe_ix ix_list (pv 0) pe_int (fun _ _ => rfl)) (pv 1)))
          (pss_cons (ps_asg (pe_op op_fdivW (pe_ix ix_list (pv 0) pe_int (fun _ _ => rfl)) (pv 1)) (pg_sub (pv 0) pe_int set_list))
          (pss_one (ps_ret (pv 3))))) pss_nil)
          (pss_cons (ps_set (i := 4) sc_l_draw.nd rfl (by first | exact Or.inl rfl | exact Or.inr rfl) (pe_ix ix_list (pv 0) pe_int (fun _ _ => rfl)))
          (pss_cons (ps_asg (pe_op op_mod (pe_op op_add (pe_op op_add (pe_op op_mul (pv 4) (pv 4)) (pe_op op_mul (pv 4) pe_int)) pe_int) pe_int) (pg_sub (pv 0) pe_int set_list))
          (pss_one (ps_ret (pe_op op_mod (pe_op op_add (pe_op op_fdivW (pe_ix ix_list (pv 0) pe_int (fun _ _ => rfl)) pe_int) (pe_op op_mul (pe_op op_mod (pe_ix ix_list (pv 0) pe_int (fun _ _ => rfl)) pe_int) pe_int)) (pv 1)))))))), ?_⟩
    have hR := R.hr
    have hC := R.hc
    have hk0 := R.k0
    have hk1 := R.k1
    have hi0 := R.i0
    refine ⟨fun σ H1 => ∃ y i1 x1 k1, σ = [some (.ref r), some (.int q), y, none, none] ∧ RgS H1 r c ns i1 x1 k1 ∧ Kp r H H1, ?_, ?_⟩
    · refine ⟨.ref r, rfl, r, _, 2, _, rfl, rfl, SqL.of hR, rfl, rfl, _, rfl, ite2 (fun e => ?_) (fun e => ?_)⟩
      · refine ⟨.ref r, rfl, r, _, 1, _, rfl, rfl, SqL.of hR, rfl, .ref r, rfl, r, _, 0, _, rfl, rfl, SqL.of hR, rfl, .ref c, ns.length, rfl, .inl ⟨_, SqL.of hC, by simp⟩, i, _, rfl, rfl, _, rfl, ite2 (fun e1 => ?_) (fun e1 => ?_)⟩
        · have l1 : i < (ns.length : Int) := of_decide_eq_true e1
          obtain ⟨z, hz⟩ := cell_at hi0 l1
          have hx : x = 0 := V.int.inj (of_decide_eq_true e)
          refine ⟨.ref r, rfl, r, _, 0, _, rfl, rfl, SqL.of hR, rfl, .ref r, rfl, r, _, 1, _, rfl, rfl, SqL.of hR, rfl, c, _, i, .int z, rfl, rfl, SqL.of hC, hz, ?_⟩
          refine ⟨.ref r, rfl, r, _, 1, _, rfl, rfl, SqL.of hR, rfl, i, 1, rfl, rfl, .ref r, rfl, r, _, 1, 1, rfl, rfl, hR, rfl, ?_⟩
          have R1 := R.set (i' := i + 1) (x' := x) (k' := k) (by omega) (by omega) R.x0 R.k0 R.k1
          refine ⟨.int z, rfl, 10, 18, rfl, rfl, ⟨by decide, by decide, by decide⟩, z, _, rfl, rfl, _, rfl, ite2 (fun e2 => ?_) (fun e2 => ?_)⟩
          · have hz2 : (10 : Int) ^ 18 ≤ z := of_decide_eq_true e2
            have R2 := R.set (i' := i + 1) (x' := z) (k' := k) (by omega) (by omega) (by omega) R.k0 R.k1
            refine ⟨.int z, rfl, .ref r, rfl, r, _, 2, 2, rfl, rfl, R1.hr, rfl, ?_⟩
            refine ⟨_, i + 1, z, k, rfl, ?_, ?_⟩
            · rw [upd_upd]; exact R2
            · rw [upd_upd]; exact Kp.at hR
          · refine ⟨.ref r, rfl, r, _, 3, _, rfl, rfl, SqL.of R1.hr, rfl, k, 40692, rfl, rfl, .inl ⟨by omega, by omega⟩, .int z, rfl, z, 2147483563, rfl, rfl, (show (0 : Int) < 2147483563 by decide), _, 71, rfl, rfl, .inr ⟨by decide, by decide⟩, _, _, rfl, rfl,
              .ref r, rfl, r, _, 1, _, rfl, rfl, SqL.of R1.hr, rfl, _, _, rfl, rfl, _, 2147483563, rfl, rfl, (show (0 : Int) < 2147483563 by decide), .ref r, rfl, r, _, 3, 3, rfl, rfl, R1.hr, rfl, ?_⟩
            have R2 := R.set (i' := i + 1) (x' := x) (k' := (k * 40692 + z % 2147483563 * 71 + (i + 1)) % 2147483563) (by omega) (by omega) (by omega) (by omega) (by omega)
            refine ⟨_, i + 1, x, (k * 40692 + z % 2147483563 * 71 + (i + 1)) % 2147483563, rfl, ?_, ?_⟩
            · rw [upd_upd]; exact R2
            · rw [upd_upd]; exact Kp.at hR
        · exact ⟨none, i, x, k, rfl, R, Kp.refl⟩
      · exact iteF ⟨none, i, x, k, rfl, R, Kp.refl⟩
    · rintro σ H1 ⟨y, i1, x1, k1, rfl, R1, kp⟩
      have hR1 := R1.hr
      have hk0 := R1.k0
      have hk1 := R1.k1
      have hx0 := R1.x0
      refine ⟨.ref r, rfl, r, _, 2, _, rfl, rfl, SqL.of hR1, rfl, x1, 0, rfl, rfl, _, rfl, ite2 (fun e => ?_) (fun e => ?_)⟩
      · refine ⟨.ref r, rfl, r, _, 2, _, rfl, rfl, SqL.of hR1, rfl, .int q, rfl, x1, q, rfl, rfl, q0, ?_⟩
        refine ⟨.ref r, rfl, r, _, 2, _, rfl, rfl, SqL.of hR1, rfl, .int q, rfl, x1, q, rfl, rfl, div_ok q0 q1 x1, .ref r, rfl, r, _, 2, 2, rfl, rfl, hR1, rfl, ?_⟩
        refine ⟨_, rfl, w _ _ (Int.emod_nonneg _ (by omega)) (Int.emod_lt_of_pos _ q0) (kp.trans (Kp.at hR1)) ⟨c, ns, i1, x1 / q, k1, R1.set R1.i0 R1.i1 (Int.ediv_nonneg hx0 (by omega)) hk0 hk1⟩⟩
      · refine ⟨.ref r, rfl, r, _, 3, _, rfl, rfl, SqL.of hR1, rfl, ?_⟩
        refine ⟨.int k1, rfl, .int k1, rfl, k1, k1, rfl, rfl, .inl ⟨by omega, by omega⟩, .int k1, rfl, k1, 39373, rfl, rfl, .inl ⟨by omega, by omega⟩, _, _, rfl, rfl, _, _, rfl, rfl, _, 2147483563, rfl, rfl, (show (0 : Int) < 2147483563 by decide), .ref r, rfl, r, _, 3, 3, rfl, rfl, hR1, rfl, ?_⟩
        have m0 : 0 ≤ (k1 * k1 + k1 * 39373 + 80021) % 2147483563 := Int.emod_nonneg _ (by decide)
        have m1 : (k1 * k1 + k1 * 39373 + 80021) % 2147483563 < 2147483563 := Int.emod_lt_of_pos _ (by decide)
        have R2 := R1.set (k' := (k1 * k1 + k1 * 39373 + 80021) % 2147483563) R1.i0 R1.i1 R1.x0 m0 m1
        refine ⟨.ref r, rfl, r, _, 3, _, rfl, rfl, SqL.of R2.hr, rfl, _, 61, rfl, rfl, ⟨by decide, by decide⟩, .ref r, rfl, r, _, 3, _, rfl, rfl, SqL.of R2.hr, rfl, _, 8123, rfl, rfl, (show (0 : Int) < 8123 by decide), _, 223, rfl, rfl, .inr ⟨by decide, by decide⟩, _, _, rfl, rfl, .int q, rfl, _, q, rfl, rfl, q0, ?_⟩
        exact w _ _ (Int.emod_nonneg _ (by omega)) (Int.emod_lt_of_pos _ q0) (kp.trans (Kp.at hR1)) ⟨c, ns, i1, x1, _, R2⟩
end
section
variable {P : Program} {w : World} {K : PySem.W.Frag} {mg : Str → Option Value} {base : Heap} {a : Ad}
/-- what may be chosen from: a list, a tuple, a text -/
def Pick (K : PySem.W.Frag) (H : Hp) (r : Addr) (v : V) (items : List V) : Prop := (∃ p, v = .ref p ∧ p ≠ r ∧ (SqL K H p items ∨ SqT K H p items)) ∨ ∃ z : Str, v = .str z ∧ items = z.cps.toList.map fun c => V.str ⟨#[c]⟩
def sp_l_choice (K : PySem.W.Frag) : Sp := fun vs H Q _ => ∃ (r : Addr) (v : V) (items : List V), vs = [.ref r, v] ∧ Rg H r ∧ Pick K H r v items ∧ 0 < items.length ∧ items.length ≤ 100000 ∧ ∀ x ∈ items, ∀ H', Kp r H H' → Rg H' r → Q x H'
theorem at_int {α : Type} {xs : List α} {i : Int} (h0 : 0 ≤ i) (h1 : i < (xs.length : Int)) : ∃ x, atI xs i = some x ∧ x ∈ xs := by
  have e : i = ((i.toNat : Nat) : Int) := by omega
  have l : i.toNat < xs.length := by omega
  refine ⟨xs[i.toNat], ?_, List.getElem_mem l⟩
  have h : atI xs ((i.toNat : Nat) : Int) = some xs[i.toNat] := atI_nat (by simp [l])
  rw [← e] at h
  exact h

theorem ok_l_choice (T : Txt K mg a) : FnOk P w K mg base CX0 2 a.f_l_choice a.fd_l_choice ["_law_rng", "_law_some"] (sp_l_choice K) := by
  have G_l_draw := ok_l_draw (P := P) (w := w) (base := base) T
  refine T.F_l_choice.ok sc_l_choice (fun vs H Q E h => ?_) (fun cdv A outer s H vs Q E hr h => ?_)
  · obtain ⟨r, v, items, rfl, _⟩ := h
    rfl
  · obtain ⟨r, v, items, rfl, R, pk, l0, l1, w⟩ := h
    refine ⟨_, (pss_one (ps_ret (pe_ix ix_seq (pv 1) (pe_call G_l_draw (hr.mono (by first | decide | omega)) (by rfl) T.g_l_draw T.F_l_draw.kp T.b_l_draw .nil pass0 (pa_cons (pv 0) (pa_cons (pe_callB call_len (by rfl) T.n_len (by decide +kernel) (pa_cons (pv 1) pa_nil)) pa_nil))) (fun _ _ => rfl)))), ?_⟩
    have n0 : (0 : Int) < (items.length : Int) := by omega
    have n1 : (items.length : Int) < 2 ^ 64 := by omega
    rcases pk with ⟨p, rfl, np, hp⟩ | ⟨z, rfl, hz⟩
    · refine ⟨.ref p, rfl, .ref r, rfl, .ref p, rfl, .ref p, items.length, rfl, ?_, r, _, rfl, R, n0, n1, fun j H' j0 j1 kp R' => ?_⟩
      · rcases hp with hp | hp
        · exact .inl ⟨_, hp, rfl⟩
        · exact .inr ⟨_, hp, rfl⟩
      · obtain ⟨x, hx, hm⟩ := at_int (xs := items) j0 j1
        rcases hp with hp | hp
        · exact .inl ⟨p, items, j, x, rfl, rfl, kp.L np hp, hx, w x hm H' kp R'⟩
        · exact .inr (.inl ⟨p, items, j, x, rfl, rfl, kp.T np hp, hx, w x hm H' kp R'⟩)
    · have hl : z.cps.toList.length = items.length := by rw [hz]; simp
      have hl2 : z.length = items.length := by rw [← hl]; simp [Str.length]
      refine ⟨.str z, rfl, .ref r, rfl, .str z, rfl, .str z, items.length, rfl, ⟨by rw [hl2]; exact sz l1, hl2.symm⟩, r, _, rfl, R, n0, n1, fun j H' j0 j1 kp R' => ?_⟩
      obtain ⟨c, hx, hm⟩ := at_int (xs := z.cps.toList) j0 (by rw [hl]; exact j1)
      exact .inr (.inr ⟨z, j, c, rfl, rfl, by rw [hl2]; exact sz l1, hx, w _ (by rw [hz]; exact List.mem_map.mpr ⟨c, hm, rfl⟩) H' kp R'⟩)
end
section
variable {P : Program} {w : World} {K : PySem.W.Frag} {mg : Str → Option Value} {base : Heap} {a : Ad}
/-- equal data of depth below n: True -/
def spEq (K : PySem.W.Frag) : Nat → Sp
  | 0 => fun _ _ _ _ => False
  | n + 1 => fun vs H Q _ => ∃ x y, vs = [x, y] ∧ Eqd K H n x y ∧ ∀ H', Same H H' → Q (.bl true) H'
def sp_l_equal (K : PySem.W.Frag) : Sp := spEq K 21

theorem ok_l_equal_n (T : Txt K mg a) : ∀ n, FnOk P w K mg base CX0 n a.f_l_equal a.fd_l_equal ["_law_result", "_law_expected"] (spEq K n)
  | 0 => fn_false
  | n + 1 => by
    have G_l_equal := ok_l_equal_n T n
    refine T.F_l_equal.ok sc_l_equal (fun vs H Q E h => ?_) (fun cdv A outer s H vs Q E hr h => ?_)
    · obtain ⟨x, y, rfl, _⟩ := h
      rfl
    obtain ⟨x, y, rfl, hE, w⟩ := h
    refine ⟨_, (pss_cons (ps_if (pt_cmpR op_isN (pv 1) pe_non (nomark _)) (pss_one (ps_ret (pe_cmpR op_isN (pv 0) pe_non (nomark _)))) pss_nil)
      (pss_cons (ps_if (PW.pt (pw_or (pt_val (pe_callB call_isi (by rfl) T.n_isinstance (by decide +kernel) (pa_cons (pv 1) (pa_cons (pe_bltn (v := .ty "list") (by rfl) T.n_list (by decide +kernel) rfl) pa_nil)))) (pw_or1 (pt_val (pe_callB call_isi (by rfl) T.n_isinstance (by decide +kernel) (pa_cons (pv 1) (pa_cons (pe_bltn (v := .ty "tuple") (by rfl) T.n_tuple (by decide +kernel) rfl) pa_nil))))))) (pss_cons (ps_if (PW.pt (pw_or (pt_cmpR op_ne (pe_callB call_isi (by rfl) T.n_isinstance (by decide +kernel) (pa_cons (pv 0) (pa_cons (pe_bltn (v := .ty "list") (by rfl) T.n_list (by decide +kernel) rfl) pa_nil))) (pe_callB call_isi (by rfl) T.n_isinstance (by decide +kernel) (pa_cons (pv 1) (pa_cons (pe_bltn (v := .ty "list") (by rfl) T.n_list (by decide +kernel) rfl) pa_nil))) (nomark _)) (pw_or1 (pt_cmpR op_ne (pe_callB call_isi (by rfl) T.n_isinstance (by decide +kernel) (pa_cons (pv 0) (pa_cons (pe_bltn (v := .ty "tuple") (by rfl) T.n_tuple (by decide +kernel) rfl) pa_nil))) (pe_callB call_isi (by rfl) T.n_isinstance (by decide +kernel) (pa_cons (pv 1) (pa_cons (pe_bltn (v := .ty "tuple") (by rfl) T.n_tuple (by decide +kernel) rfl) pa_nil))) (nomark _))))) (pss_one (ps_ret pe_bl)) pss_nil)
      (pss_one (ps_ret (pe_and (pe_cmpR op_eq (pe_callB call_len (by rfl) T.n_len (by decide +kernel) (pa_cons (pv 0) pa_nil)) (pe_callB call_len (by rfl) T.n_len (by decide +kernel) (pa_cons (pv 1) pa_nil)) (nomark _)) (pe_one (pe_callB (cr_all rfl) (by rfl) T.n_all (by decide +kernel) (pa_cons (pe_lc (own := [("_law_one", 2), ("_law_other", 3)]) (g := gTup K 2 (gCons (gName 2) (gCons (gName 3) gNil))) rfl sc_l_equal.nd (RZ.pi_zipA (by rfl) T.n_zip (pa_cons (pv 0) (pa_cons (pv 1) pa_nil))) (blkOk_by (own := [("_law_one", 2), ("_law_other", 3)]) (N := ["_law_result", "_law_expected", "_law_one", "_law_other"]) (sc := defScope s_l_equal) (by decide +kernel)) (fun _ _ _ _ _ => (pg_tup rfl (pgs_cons (pg_name (i := 2) sc_l_equal.nd rfl (Or.inl rfl)) (pgs_cons (pg_name (i := 3) sc_l_equal.nd rfl (Or.inl rfl)) pgs_nil)))) (fun _ _ _ _ _ => pts_nil) (fun _ _ _ _ _ => (pe_call G_l_equal (hr.mono (by first | decide | omega)) (by rfl) T.g_l_equal T.F_l_equal.kp T.b_l_equal .nil pass0 (pa_cons (pv 2) (pa_cons (pv 3) pa_nil))))) pa_nil))))))) pss_nil)
      (pss_cons (ps_if (PW.pt (pw_or (pt_cmpR op_ne (pe_callB call_isi (by rfl) T.n_isinstance (by decide +kernel) (pa_cons (pv 1) (pa_cons (pe_bltn (v := .ty "bool") (by rfl) T.n_bool (by decide +kernel) rfl) pa_nil))) (pe_callB call_isi (by rfl) T.n_isinstance (by decide +kernel) (pa_cons (pv 0) (pa_cons (pe_bltn (v := .ty "bool") (by rfl) T.n_bool (by decide +kernel) rfl) pa_nil))) (nomark _)) (pw_or1 (pt_cmpR op_ne (pe_callB call_isi (by rfl) T.n_isinstance (by decide +kernel) (pa_cons (pv 1) (pa_cons (pe_bltn (v := .ty "int") (by rfl) T.n_int (by decide +kernel) rfl) pa_nil))) (pe_callB call_isi (by rfl) T.n_isinstance (by decide +kernel) (pa_cons (pv 0) (pa_cons (pe_bltn (v := .ty "int") (by rfl) T.n_int (by decide +kernel) rfl) pa_nil))) (nomark _))))) (pss_one (ps_ret pe_bl)) pss_nil)
      (pss_one (ps_ret (pe_and (pe_cmpR op_eq (pe_callB call_isi (by rfl) T.n_isinstance (by decide +kernel) (pa_cons (pv 0) (pa_cons (pe_bltn (v := .ty "str") (by rfl) T.n_str (by decide +kernel) rfl) pa_nil))) (pe_callB call_isi (by rfl) T.n_isinstance (by decide +kernel) (pa_cons (pv 1) (pa_cons (pe_bltn (v := .ty "str") (by rfl) T.n_str (by decide +kernel) rfl) pa_nil))) (nomark _)) (pe_one (pe_cmpR op_eq (pv 0) (pv 1) (nomark _))))))))), ?_⟩
    by_cases hq : x = y ∧ atom x = true
    · obtain ⟨rfl, hat⟩ := hq
      by_cases hn : x = .non
      · subst hn
        exact ⟨.non, rfl, rfl, _, rfl, ifT (decide_eq_true rfl) ⟨.non, rfl, rfl, by rw [decide_eq_true rfl]; exact w H (Same.refl H)⟩⟩
      · obtain ⟨t, b1, b2, b3, ty, hl, ht, bb, bi, bs, sc⟩ : ∃ (t : String) (b1 b2 b3 : Bool), TyX K H x (.type t) ∧ kitB t "list" = some false ∧ kitB t "tuple" = some false ∧ kitB t "bool" = some b1 ∧ kitB t "int" = some b2 ∧ kitB t "str" = some b3 ∧ scal x x = true := by
          cases x with
          | non => exact absurd rfl hn
          | bl b => exact ⟨"bool", true, true, false, .base (.bl b), by decide +kernel, by decide +kernel, by decide +kernel, by decide +kernel, by decide +kernel, rfl⟩
          | int i => exact ⟨"int", false, true, false, .base (.int i), by decide +kernel, by decide +kernel, by decide +kernel, by decide +kernel, by decide +kernel, rfl⟩
          | str z => exact ⟨"str", false, false, true, .base (.str z), by decide +kernel, by decide +kernel, by decide +kernel, by decide +kernel, by decide +kernel, rfl⟩
          | _ => cases hat
        refine ⟨x, rfl, rfl, _, rfl, ifF (decide_eq_false hn) ?_⟩
        refine ⟨x, rfl, _, _, _, _, _, rfl, .ty _, ty, kit_ty hl, false, rfl, iteF ⟨x, rfl, _, _, _, _, _, rfl, .ty _, ty, kit_ty ht, false, rfl, iteF ?_⟩⟩
        refine ⟨x, rfl, _, _, _, _, _, rfl, .ty _, ty, kit_ty bb, x, rfl, _, _, _, _, _, rfl, .ty _, ty, kit_ty bb, rfl, _, rfl, iteNS rfl ⟨x, rfl, _, _, _, _, _, rfl, .ty _, ty, kit_ty bi, x, rfl, _, _, _, _, _, rfl, .ty _, ty, kit_ty bi, rfl, _, rfl, iteNS rfl ?_⟩⟩
        refine ⟨x, rfl, _, _, _, _, _, rfl, .ty _, ty, kit_ty bs, x, rfl, _, _, _, _, _, rfl, .ty _, ty, kit_ty bs, rfl, _, rfl, ifT (decide_eq_true rfl) ⟨x, rfl, x, rfl, sc, ?_⟩⟩
        rw [decide_eq_true rfl]
        exact w H (Same.refl H)
    cases n with
    | zero => exact absurd hE hq
    | succ n =>
      rcases hE with hE | ⟨p, q, xs, ys, rfl, rfl, hS, hl, hl2, hk⟩
      · exact absurd hE hq
      have nn : ∀ q : Addr, decide (V.ref q = V.non) = false := fun q => decide_eq_false (fun z => nomatch z)
      refine ⟨.ref q, rfl, rfl, _, rfl, ifF (nn q) ?_⟩
      -- one turn of the comprehension, for lists and for tuples alike
      have turn : ∀ (D : Addr) (H1 : Hp) (i : Nat) (u v : V) (N : Hp → Prop), H D = none → Same H H1 → H1 D = some (.lst ((List.replicate i true).map V.bl)) → i < xs.length → xs[i]? = some u → ys[i]? = some v →
          (∀ H2, Same H H2 → H2 D = some (.lst ((List.replicate (i + 1) true).map V.bl)) → N H2) → spEq K (n + 1) [u, v] H1 (fun y H4 => ∃ acc, H4 D = some (.lst acc) ∧ acc.length < sizeLine ∧ N (upd H4 D (.lst (acc ++ [y])))) E0 := by
        intro D H1 i u v N nD s1 hD hi hu hv hN
        refine ⟨u, v, rfl, (hk i u v hu hv).same s1, fun H4 s4 => ⟨_, s4 _ _ hD, by rw [List.length_map, List.length_replicate]; exact szl (by omega), hN _ (fun b o e => ?_) ?_⟩⟩
        · rw [upd_ne (ne_of_none e nD)]
          exact s4 _ _ (s1 _ _ e)
        · rw [upd_same, List.replicate_succ', List.map_append]
          rfl
      have fin : ∀ (D : Addr) (H1 : Hp), Same H H1 → H1 D = some (.lst ((List.replicate xs.length true).map V.bl)) → rAll K [V.ref D] H1 Q := fun D H1 s1 hD =>
        ⟨D, List.replicate xs.length true, rfl, SqL.of hD, by
          rw [show (List.replicate xs.length true).all id = true by simp]
          exact w H1 s1⟩
      rcases hS with ⟨ha, hb⟩ | ⟨ha, hb⟩
      · refine ⟨.ref q, rfl, _, _, _, _, true, rfl, .ty _, tyL hb, kit_ty (by decide +kernel), true, rfl, iteT (iteT ?_)⟩
        refine ⟨.ref p, rfl, _, _, _, _, true, rfl, .ty _, tyL ha, kit_ty (by decide +kernel), .ref q, rfl, _, _, _, _, true, rfl, .ty _, tyL hb, kit_ty (by decide +kernel), rfl, _, rfl, iteNS rfl ?_⟩
        refine ⟨.ref p, rfl, _, _, _, _, false, rfl, .ty _, tyL ha, kit_ty (by decide +kernel), .ref q, rfl, _, _, _, _, false, rfl, .ty _, tyL hb, kit_ty (by decide +kernel), rfl, _, rfl, iteNS rfl ?_⟩
        refine ⟨.ref p, rfl, .ref p, xs.length, rfl, .inl ⟨_, ha, rfl⟩, .ref q, rfl, .ref q, ys.length, rfl, .inl ⟨_, hb, rfl⟩, rfl, _, rfl, ifT (decide_eq_true (by rw [hl])) ?_⟩
        refine ⟨.ref p, rfl, .ref q, rfl, p, q, xs, ys, rfl, .inl ⟨ha, hb, fun D nD => ?_⟩⟩
        refine ⟨fun i m H1 => i + m = xs.length ∧ Same H H1 ∧ H1 D = some (.lst ((List.replicate i true).map V.bl)), ⟨xs.length, by omega, Same.new nD, upd_same⟩, fun i m H1 hW => ?_⟩
        obtain ⟨em, s1, hD⟩ := hW
        by_cases hi : i < xs.length
        · refine .inr ⟨⟨xs, ys, xs[i], ys[i]'(by omega), s1.seq ha, s1.seq hb, List.getElem?_eq_getElem hi, List.getElem?_eq_getElem (by omega)⟩, fun H2 => Same H H2 ∧ H2 D = some (.lst ((List.replicate (i + 1) true).map V.bl)), fun H2 hN => ⟨m - 1, by omega, by omega, hN.1, hN.2⟩, fun v H2 hy => ?_⟩
          obtain ⟨tt, u1, u2, rfl, nT, rfl, f1, f2⟩ := hy
          refine ⟨tt, [u1, u2], rfl, SqT.of upd_same, rfl, u1, [u2], rfl, u2, [], rfl, rfl, rfl, ?_⟩
          refine tYes_if ?_
          refine ⟨u1, rfl, u2, rfl, turn D (upd H1 tt (.tup [u1, u2])) i u1 u2 (fun H2 => Same H H2 ∧ H2 D = some (.lst ((List.replicate (i + 1) true).map V.bl))) nD (s1.trans (Same.new nT)) ?_ hi (f1 _ (s1.seq ha)) (f2 _ (s1.seq hb)) fun H2 a b => ⟨a, b⟩⟩
          rw [upd_ne (ne_of_none hD nT)]
          exact hD
        · have ei : i = xs.length := by omega
          subst ei
          exact .inl ⟨⟨xs, ys, s1.seq ha, s1.seq hb, .inl (Nat.le_refl _)⟩, fin D H1 s1 hD⟩
      · refine ⟨.ref q, rfl, _, _, _, _, false, rfl, .ty _, tyT hb, kit_ty (by decide +kernel), false, rfl, iteF ⟨.ref q, rfl, _, _, _, _, true, rfl, .ty _, tyT hb, kit_ty (by decide +kernel), true, rfl, iteT ?_⟩⟩
        refine ⟨.ref p, rfl, _, _, _, _, false, rfl, .ty _, tyT ha, kit_ty (by decide +kernel), .ref q, rfl, _, _, _, _, false, rfl, .ty _, tyT hb, kit_ty (by decide +kernel), rfl, _, rfl, iteNS rfl ?_⟩
        refine ⟨.ref p, rfl, _, _, _, _, true, rfl, .ty _, tyT ha, kit_ty (by decide +kernel), .ref q, rfl, _, _, _, _, true, rfl, .ty _, tyT hb, kit_ty (by decide +kernel), rfl, _, rfl, iteNS rfl ?_⟩
        refine ⟨.ref p, rfl, .ref p, xs.length, rfl, .inr ⟨_, ha, rfl⟩, .ref q, rfl, .ref q, ys.length, rfl, .inr ⟨_, hb, rfl⟩, rfl, _, rfl, ifT (decide_eq_true (by rw [hl])) ?_⟩
        refine ⟨.ref p, rfl, .ref q, rfl, p, q, xs, ys, rfl, .inr ⟨ha, hb, fun D nD => ?_⟩⟩
        refine ⟨fun i m H1 => i + m = xs.length ∧ Same H H1 ∧ H1 D = some (.lst ((List.replicate i true).map V.bl)), ⟨xs.length, by omega, Same.new nD, upd_same⟩, fun i m H1 hW => ?_⟩
        obtain ⟨em, s1, hD⟩ := hW
        by_cases hi : i < xs.length
        · refine .inr ⟨⟨xs, ys, xs[i], ys[i]'(by omega), Same.T s1 ha, Same.T s1 hb, List.getElem?_eq_getElem hi, List.getElem?_eq_getElem (by omega)⟩, fun H2 => Same H H2 ∧ H2 D = some (.lst ((List.replicate (i + 1) true).map V.bl)), fun H2 hN => ⟨m - 1, by omega, by omega, hN.1, hN.2⟩, fun v H2 hy => ?_⟩
          obtain ⟨tt, u1, u2, rfl, nT, rfl, f1, f2⟩ := hy
          refine ⟨tt, [u1, u2], rfl, SqT.of upd_same, rfl, u1, [u2], rfl, u2, [], rfl, rfl, rfl, ?_⟩
          refine tYes_if ?_
          refine ⟨u1, rfl, u2, rfl, turn D (upd H1 tt (.tup [u1, u2])) i u1 u2 (fun H2 => Same H H2 ∧ H2 D = some (.lst ((List.replicate (i + 1) true).map V.bl))) nD (s1.trans (Same.new nT)) ?_ hi (f1 _ (Same.T s1 ha)) (f2 _ (Same.T s1 hb)) fun H2 a b => ⟨a, b⟩⟩
          rw [upd_ne (ne_of_none hD nT)]
          exact hD
        · have ei : i = xs.length := by omega
          subst ei
          exact .inl ⟨⟨xs, ys, Same.T s1 ha, Same.T s1 hb, .inl (Nat.le_refl _)⟩, fin D H1 s1 hD⟩
theorem ok_l_equal (T : Txt K mg a) : FnOk P w K mg base CX0 21 a.f_l_equal a.fd_l_equal ["_law_result", "_law_expected"] (sp_l_equal K) := ok_l_equal_n T 21
end
section
variable {P : Program} {w : World} {K : PySem.W.Frag} {mg : Str → Option Value} {base : Heap} {a : Ad}
def sp_l_letters (_ : PySem.W.Frag) : Sp := fun vs H Q _ => vs = [] ∧ Q (.str "abcdefghijklmnopqrstuvwxyz") H

theorem ok_l_letters (T : Txt K mg a) : FnOk P w K mg base CX0 1 a.f_l_letters a.fd_l_letters [] (sp_l_letters K) := by
  refine T.F_l_letters.ok sc_l_letters (fun vs H Q E h => ?_) (fun cdv A outer s H vs Q E hr h => ?_)
  · rw [h.1]; rfl
  · obtain ⟨rfl, w⟩ := h
    refine ⟨_, (pss_one (ps_ret pe_str)), ?_⟩
    exact w
end
section
variable {P : Program} {w : World} {K : PySem.W.Frag} {mg : Str → Option Value} {base : Heap} {a : Ad}
def sp_l_is_name (K : PySem.W.Frag) : Sp := fun vs H Q _ => ∃ z : Str, vs = [.str z] ∧ z.length ≤ 100000 ∧ ∀ H', Same H H' → Q (.bl (nameB z)) H'

theorem ok_l_is_name (T : Txt K mg a) : FnOk P w K mg base CX0 2 a.f_l_is_name a.fd_l_is_name ["_law_text"] (sp_l_is_name K) := by
  have G_l_letters := ok_l_letters (P := P) (w := w) (base := base) T
  refine T.F_l_is_name.ok sc_l_is_name (fun vs H Q E h => ?_) (fun cdv A outer s H vs Q E hr h => ?_)
  · obtain ⟨v, rfl, _⟩ := h
    rfl
  · obtain ⟨z, rfl, hz, w⟩ := h
    refine ⟨_, (pss_cons (ps_if (PW.pt (pw_or (pt_not (pt_chain op_le op_le pe_int (pe_callB call_len (by rfl) T.n_len (by decide +kernel) (pa_cons (pv 0) pa_nil)) pe_int)) (pw_or1 (pt_cmpR op_in_seq (pv 0) (pe_tup (pa_cons pe_str (pa_cons pe_str (pa_cons pe_str (pa_cons pe_str pa_nil))))) (by rfl))))) (pss_one (ps_ret pe_bl)) pss_nil)
          (pss_one (ps_ret (pe_callB (cr_all rfl) (by rfl) T.n_all (by decide +kernel) (pa_cons (pe_lc (own := [("_law_sign", 1)]) (g := gName 1) rfl sc_l_is_name.nd (pi_str (pv 0)) (blkOk_by (own := [("_law_sign", 1)]) (N := ["_law_text", "_law_sign"]) (sc := defScope s_l_is_name) (by decide +kernel)) (fun _ _ _ _ _ => (pg_name (i := 1) sc_l_is_name.nd rfl (Or.inl rfl))) (fun _ _ _ _ _ => pts_nil) (fun _ _ _ _ _ => (pe_cmpR op_in_sign (pv 1) (pe_call0 G_l_letters (hr.mono (by first | decide | omega)) (by rfl) T.g_l_letters T.F_l_letters.kp T.b_l_letters .nil pass0) (by rfl)))) pa_nil))))), ?_⟩
    have no : ∀ H', Same H H' → nameB z = false → Q (.bl false) H' := fun H' s e => by
      have := w H' s
      rw [e] at this
      exact this
    refine ⟨.str z, rfl, .str z, z.length, rfl, ⟨sz hz, rfl⟩, 1, (z.length : Int), rfl, rfl, _, rfl, ite2 (fun e1 => ?_) (fun e1 => ?_)⟩
    rotate_left
    · refine ⟨false, rfl, iteT (iteT (no H (Same.refl H) ?_))⟩
      have : ¬ 1 ≤ z.length := fun y => e1 (decide_eq_true (by omega))
      unfold nameB
      rw [decide_eq_false this]
      rfl
    have l1 : 1 ≤ z.length := by have := of_decide_eq_true e1; omega
    by_cases l2 : z.length ≤ 6
    rotate_left
    · refine ⟨(z.length : Int), 6, rfl, rfl, false, congrArg V.bl (decide_eq_false (by omega)), iteT (iteT (no H (Same.refl H) ?_))⟩
      unfold nameB
      rw [decide_eq_true l1, decide_eq_false l2]
      rfl
    refine ⟨(z.length : Int), 6, rfl, rfl, true, congrArg V.bl (decide_eq_true (by omega)), iteF ?_⟩
    refine ⟨.str z, rfl, sz (by show 4 ≤ 100000; decide), fun p np => ?_⟩
    have s0 := Same.new (o := .tup kws4) np
    refine ⟨p, kws4, rfl, .inr (SqT.of upd_same), rfl, rfl, _, rfl, ite2 (fun e => ?_) (fun e => ?_)⟩
    · refine no _ s0 ?_
      have e' : inV (.str z) kws4 = true := e
      unfold nameB
      rw [e', Bool.not_true, Bool.and_false, Bool.and_false]
    have e' : inV (.str z) kws4 = false := Bool.eq_false_iff.mpr e
    refine ⟨.str z, rfl, z, rfl, fun D nD => ?_⟩
    have nD0 : H D = none := s0.free nD
    refine ⟨fun i m H1 => i + m = z.length ∧ Same H H1 ∧ H1 D = some (.lst (((z.cps.toList.take i).map lowB).map V.bl)), ⟨z.length, by omega, s0.trans (Same.new nD), by rw [upd_same]; rfl⟩, fun i m H1 hW => ?_⟩
    obtain ⟨em, s1, hD⟩ := hW
    by_cases hi : i < z.length
    · refine .inr ⟨(show i < z.cps.size from hi), fun H2 => Same H H2 ∧ H2 D = some (.lst (((z.cps.toList.take (i + 1)).map lowB).map V.bl)), fun H2 hN => ⟨m - 1, by omega, by omega, hN.1, hN.2⟩, fun v H2 hy => ?_⟩
      obtain ⟨rfl, c, hc, rfl⟩ := hy
      have hc2 : z.cps.toList[i]? = some c := by rw [Array.getElem?_toList]; exact hc
      refine ⟨rfl, tYes_if ?_⟩
      refine ⟨.str ⟨#[c]⟩, rfl, rfl, c, "abcdefghijklmnopqrstuvwxyz", rfl, rfl, ?_⟩
      refine ⟨_, hD, ?_, fun x o e => ?_, ?_⟩
      · rw [List.length_map, List.length_map, List.length_take]
        exact szl (by omega)
      · rw [upd_ne (ne_of_none e nD0)]
        exact s1 _ _ e
      · rw [upd_same, abc_mem, tk_more hc2, List.map_append]
        rfl
    · have ei : i = z.length := by omega
      subst ei
      refine .inl ⟨(show z.cps.size ≤ z.length from Nat.le_refl _), ?_⟩
      rw [show z.cps.toList.take z.length = z.cps.toList by rw [← cps_len, List.take_length]] at hD
      refine ⟨D, z.cps.toList.map lowB, rfl, SqL.of hD, ?_⟩
      have ea : (z.cps.toList.map lowB).all id = z.cps.toList.all lowB := by rw [List.all_map]; rfl
      rw [ea]
      have := w H1 s1
      unfold nameB at this
      rw [decide_eq_true l1, decide_eq_true l2, e', Bool.not_false, Bool.and_true, Bool.and_true, Bool.true_and] at this
      exact this
end
section
variable {P : Program} {w : World} {K : PySem.W.Frag} {mg : Str → Option Value} {base : Heap} {a : Ad}
def sp_l_mutate_text (K : PySem.W.Frag) : Sp := fun vs H Q _ => ∃ (r : Addr) (z : Str) (l : Addr) (ss : List Str), vs = [.ref r, .str z, .ref l] ∧ Rg H r ∧ l ≠ r ∧ SqL K H l (ss.map V.str) ∧ 0 < ss.length ∧ ss.length ≤ 1000 ∧ (∀ x ∈ ss, x.length ≤ 10) ∧ z.length ≤ 1000 ∧ ∀ (z' : Str) H', z'.length ≤ 3000 → Kp r H H' → Rg H' r → Q (.str z') H'

theorem ok_l_mutate_text (T : Txt K mg a) : FnOk P w K mg base CX0 3 a.f_l_mutate_text a.fd_l_mutate_text ["_law_rng", "_law_text", "_law_signs"] (sp_l_mutate_text K) := by
  have G_l_choice := ok_l_choice (P := P) (w := w) (base := base) T
  have G_l_draw := ok_l_draw (P := P) (w := w) (base := base) T
  refine T.F_l_mutate_text.ok sc_l_mutate_text (fun vs H Q E h => ?_) (fun cdv A outer s H vs Q E hr h => ?_)
  · obtain ⟨r, z, l, ss, rfl, _⟩ := h
    rfl
  · obtain ⟨r, z, l, ss, rfl, R, nl, hS, hs0, hs1, hs2, hz, w⟩ := h
    refine ⟨_, (pss_cons (ps_par (i := 3) (j := 4) (by rfl) sc_l_mutate_text.nd rfl rfl (by decide) rfl rfl (pa_cons (pe_call G_l_draw (hr.mono (by first | decide | omega)) (by rfl) T.g_l_draw T.F_l_draw.kp T.b_l_draw .nil pass0 (pa_cons (pv 0) (pa_cons (pe_op op_add (pe_callB call_len (by rfl) T.n_len (by decide +kernel) (pa_cons (pv 1) pa_nil)) pe_int) pa_nil))) (pa_cons (pe_call G_l_draw (hr.mono (by first | decide | omega)) (by rfl) T.g_l_draw T.F_l_draw.kp T.b_l_draw .nil pass0 (pa_cons (pv 0) (pa_cons pe_int pa_nil))) pa_nil)) (by rfl))
          (pss_cons (ps_set (i := 5) sc_l_mutate_text.nd rfl (by first | exact Or.inl rfl | exact Or.inr rfl) (pe_call G_l_choice (hr.mono (by first | decide | omega)) (by rfl) T.g_l_choice T.F_l_choice.kp T.b_l_choice .nil pass0 (pa_cons (pv 0) (pa_cons (pv 2) pa_nil))))
          (pss_cons (ps_set (i := 6) sc_l_mutate_text.nd rfl (by first | exact Or.inl rfl | exact Or.inr rfl) (pe_lst (pa_cons (pv 1) (pa_cons (pe_op op_add_str (pe_op op_add_str (pe_slice sl_str (pv 1) po_none (po_some (pv 3))) (pv 5)) (pe_slice sl_str (pv 1) (po_some (pv 3)) po_none)) (pa_cons (pe_op op_add_str (pe_slice sl_str (pv 1) po_none (po_some (pv 3))) (pe_slice sl_str (pv 1) (po_some (pe_op op_add (pv 3) pe_int)) po_none)) (pa_cons (pe_op op_add_str (pe_op op_add_str (pe_slice sl_str (pv 1) po_none (po_some (pv 3))) (pv 5)) (pe_slice sl_str (pv 1) (po_some (pe_op op_add (pv 3) pe_int)) po_none)) pa_nil))))))
          (pss_one (ps_ret (pe_ix ix_list (pe_op op_cat (pv 6) (pe_lst (pa_cons (pe_op op_add_str (pv 1) (pv 5)) (pa_cons (pe_op op_add_str (pv 5) (pv 1)) pa_nil)))) (pv 4) (fun _ _ => rfl))))))), ?_⟩
    refine ⟨.ref r, rfl, .str z, rfl, .str z, z.length, rfl, ⟨sz (by omega), rfl⟩, (z.length : Int), 1, rfl, rfl, r, _, rfl, R, by omega, by omega, fun pos H1 p0 p1 k1 R1 => ?_⟩
    refine ⟨.ref r, rfl, r, 6, rfl, R1, by decide, by decide, fun pick H2 q0 q1 k2 R2 => ?_⟩
    refine ⟨_, _, rfl, ?_⟩
    refine ⟨.ref r, rfl, .ref l, rfl, r, .ref l, _, rfl, R2, .inl ⟨l, rfl, nl, .inl ((k1.trans k2).L nl hS)⟩, by rw [List.length_map]; exact hs0, by rw [List.length_map]; omega, fun x hx H3 k3 R3 => ?_⟩
    obtain ⟨y, hy, rfl⟩ := List.mem_map.mp hx
    have ly := hs2 y hy
    have lc := fun lo hi => cutS_length z lo hi
    have c1 := lc none (some pos)
    have c2 := lc (some pos) none
    have c3 := lc (some (pos + 1)) none
    have la := Str.length_append
    refine ⟨.str z, rfl, .str z, rfl, .int pos, rfl, pos, rfl, z, rfl, sz (by omega), .str y, rfl, _, _, rfl, rfl, sz (by omega), .str z, rfl, .int pos, rfl, pos, rfl, z, rfl, sz (by omega), _, _, rfl, rfl, sz (by rw [la]; omega), ?_⟩
    refine ⟨.str z, rfl, .int pos, rfl, pos, rfl, z, rfl, sz (by omega), .str z, rfl, .int pos, rfl, _, _, rfl, rfl, _, rfl, z, rfl, sz (by omega), _, _, rfl, rfl, sz (by omega), ?_⟩
    refine ⟨.str z, rfl, .int pos, rfl, pos, rfl, z, rfl, sz (by omega), .str y, rfl, _, _, rfl, rfl, sz (by omega), .str z, rfl, .int pos, rfl, _, _, rfl, rfl, _, rfl, z, rfl, sz (by omega), _, _, rfl, rfl, sz (by rw [la]; omega), ?_⟩
    refine ⟨sz (by show 4 ≤ 100000; decide), fun m1 nm1 => ?_⟩
    refine ⟨.ref m1, rfl, .str z, rfl, .str y, rfl, _, _, rfl, rfl, sz (by omega), .str y, rfl, .str z, rfl, _, _, rfl, rfl, sz (by omega), sz (by show 2 ≤ 100000; decide), fun m2 nm2 => ?_⟩
    refine ⟨m1, m2, _, _, rfl, rfl, by rw [upd_ne (ne_of_none upd_same nm2)]; exact upd_same, upd_same, sz (by show 6 ≤ 100000; decide), fun m3 nm3 => ?_⟩
    obtain ⟨v, hv, hm⟩ := at_int (xs := [V.str z, V.str (cutS z none (some pos) ++ y ++ cutS z (some pos) none), V.str (cutS z none (some pos) ++ cutS z (some (pos + 1)) none), V.str (cutS z none (some pos) ++ y ++ cutS z (some (pos + 1)) none), V.str (z ++ y), V.str (y ++ z)]) q0 q1
    refine ⟨.int pick, rfl, m3, _, pick, v, rfl, rfl, SqL.of upd_same, hv, ?_⟩
    have ks := (Same.new (o := .lst [V.str z, V.str (cutS z none (some pos) ++ y ++ cutS z (some pos) none), V.str (cutS z none (some pos) ++ cutS z (some (pos + 1)) none), V.str (cutS z none (some pos) ++ y ++ cutS z (some (pos + 1)) none)]) nm1).trans ((Same.new (o := .lst [V.str (z ++ y), V.str (y ++ z)]) nm2).trans (Same.new (o := .lst [V.str z, V.str (cutS z none (some pos) ++ y ++ cutS z (some pos) none), V.str (cutS z none (some pos) ++ cutS z (some (pos + 1)) none), V.str (cutS z none (some pos) ++ y ++ cutS z (some (pos + 1)) none), V.str (z ++ y), V.str (y ++ z)]) nm3))
    obtain ⟨u, rfl, hu⟩ : ∃ u : Str, v = .str u ∧ u.length ≤ 3000 := by
      simp only [List.mem_cons, List.not_mem_nil, or_false] at hm
      rcases hm with h | h | h | h | h | h
      · exact ⟨_, h, by omega⟩
      · exact ⟨_, h, by rw [la, la]; omega⟩
      · exact ⟨_, h, by rw [la]; omega⟩
      · exact ⟨_, h, by rw [la, la]; omega⟩
      · exact ⟨_, h, by rw [la]; omega⟩
      · exact ⟨_, h, by rw [la]; omega⟩
    exact w u _ hu (((k1.trans k2).trans k3).trans (Kp.of ks)) (R3.same ks)
end
section
variable {P : Program} {w : World} {K : PySem.W.Frag} {mg : Str → Option Value} {base : Heap} {a : Ad}
def sp_p_law (K : PySem.W.Frag) : Sp := fun vs H Q _ => ∃ (b : Addr) (ns : List Int), vs = [.ref b] ∧ SqL K H b (ns.map V.int) ∧ ns.length ≤ 63 ∧ ∀ H', Q (.bl true) H'
theorem join_len0 : ∀ (ys : List Str), (∀ y ∈ ys, y.length = 1) → (Txt.join "" ys).length = ys.length
  | ys, h => by
    rw [TL.join_eq]
    induction ys with
    | nil => rfl
    | cons y r ih =>
      cases r with
      | nil => exact h y List.mem_cons_self
      | cons z r =>
        have i1 := ih (fun x hx => h x (List.mem_cons_of_mem _ hx))
        show (y ++ "" ++ Str.join "" (z :: r)).length = _
        rw [Str.length_append, Str.length_append, i1, h y List.mem_cons_self]
        show 1 + 0 + (z :: r).length = (y :: z :: r).length
        rw [List.length_cons, List.length_cons, List.length_cons]
        omega
theorem sum_ones : ∀ (ys : List Str), (∀ y ∈ ys, y.length = 1) → (ys.map (·.length)).sum = ys.length
  | [], _ => rfl
  | y :: r, h => by
    rw [List.map_cons, List.sum_cons, sum_ones r (fun x hx => h x (List.mem_cons_of_mem _ hx)), h y List.mem_cons_self, List.length_cons]
    omega
theorem n_a : nameB "abcdef" = true := by decide +kernel
theorem n_b : nameB "abcdefg" = false := by decide +kernel
theorem n_c : nameB "" = false := by decide +kernel

theorem ok_p_law (T : Txt K mg a) : FnOk P w K mg base CX0 22 a.f_p_law a.fd_p_law ["_law_script"] (sp_p_law K) := by
  have G_l_source := ok_l_source (P := P) (w := w) (base := base) T
  have G_l_equal := ok_l_equal (P := P) (w := w) (base := base) T
  have G_l_choice := ok_l_choice (P := P) (w := w) (base := base) T
  have G_p_is_valid_name := ok_p_is_valid_name (P := P) (w := w) (base := base) T
  have G_l_mutate_text := ok_l_mutate_text (P := P) (w := w) (base := base) T
  have G_l_draw := ok_l_draw (P := P) (w := w) (base := base) T
  have G_l_is_name := ok_l_is_name (P := P) (w := w) (base := base) T
  obtain ⟨_, kb_p_is_valid_name_0_thing⟩ := T.kb_p_is_valid_name_0_thing
  refine T.F_p_law.ok sc_p_law (fun vs H Q E h => ?_) (fun cdv A outer s H vs Q E hr h => ?_)
  · obtain ⟨b, ns, rfl, _⟩ := h
    rfl
  · obtain ⟨b, ns, rfl, hS, hlen, w⟩ := h
    refine ⟨_, (pss_cons (ps_set (i := 1) sc_p_law.nd rfl (by first | exact Or.inl rfl | exact Or.inr rfl) (pe_call G_l_source (hr.mono (by first | decide | omega)) (by rfl) T.g_l_source T.F_l_source.kp T.b_l_source .nil pass0 (pa_cons (pv 0) pa_nil)))
          (pss_cons (ps_for PassesOwn.never rfl (pi_range1 (by rfl) T.n_range (pa_cons pe_int pa_nil)) (pg_name (i := 2) sc_p_law.nd rfl (by first | exact Or.inl rfl | exact Or.inr rfl)) (pss_cons (ps_set (i := 3) sc_p_law.nd rfl (by first | exact Or.inl rfl | exact Or.inr rfl) (pe_join pe_str (pe_lc (own := [("_law_k", 6)]) (g := gName 6) rfl sc_p_law.nd (pi_range1 (by rfl) T.n_range (pa_cons (pe_call G_l_draw (hr.mono (by first | decide | omega)) (by rfl) T.g_l_draw T.F_l_draw.kp T.b_l_draw .nil pass0 (pa_cons (pv 1) (pa_cons pe_int pa_nil))) pa_nil)) (blkOk_by (own := [("_law_k", 6)]) (N := ["_law_script", "_law_rng", "_law_turn", "_law_some", "_law_words", "_law_text", "_law_k"]) (sc := defScope s_p_law) (by decide +kernel)) (fun _ _ _ _ _ => (pg_name (i := 6) sc_p_law.nd rfl (Or.inl rfl))) (fun _ _ _ _ _ => pts_nil) (fun _ _ _ _ _ => (pe_call G_l_choice (hr.mono (by first | decide | omega)) (by rfl) T.g_l_choice T.F_l_choice.kp T.b_l_choice .nil pass0 (pa_cons (pv 1) (pa_cons pe_str pa_nil)))))))
          (pss_cons (ps_set (i := 4) sc_p_law.nd rfl (by first | exact Or.inl rfl | exact Or.inr rfl) (pe_lst (pa_cons pe_str (pa_cons pe_str (pa_cons pe_str (pa_cons pe_str (pa_cons pe_str (pa_cons pe_str (pa_cons pe_str (pa_cons pe_str pa_nil))))))))))
          (pss_cons (ps_set (i := 5) sc_p_law.nd rfl (by first | exact Or.inl rfl | exact Or.inr rfl) (pe_call G_l_choice (hr.mono (by first | decide | omega)) (by rfl) T.g_l_choice T.F_l_choice.kp T.b_l_choice .nil pass0 (pa_cons (pv 1) (pa_cons (pe_lst (pa_cons (pv 3) (pa_cons (pv 3) (pa_cons (pe_call G_l_choice (hr.mono (by first | decide | omega)) (by rfl) T.g_l_choice T.F_l_choice.kp T.b_l_choice .nil pass0 (pa_cons (pv 1) (pa_cons (pv 4) pa_nil))) (pa_cons (pe_call G_l_mutate_text (hr.mono (by first | decide | omega)) (by rfl) T.g_l_mutate_text T.F_l_mutate_text.kp T.b_l_mutate_text .nil pass0 (pa_cons (pv 1) (pa_cons (pv 3) (pa_cons (pe_lst (pa_cons pe_str (pa_cons pe_str (pa_cons pe_str (pa_cons pe_str (pa_cons pe_str (pa_cons pe_str pa_nil))))))) pa_nil)))) pa_nil))))) pa_nil))))
          (pss_one (ps_if (pt_not (pt_val (pe_call G_l_equal (hr.mono (by first | decide | omega)) (by rfl) T.g_l_equal T.F_l_equal.kp T.b_l_equal .nil pass0 (pa_cons (pe_lst (pa_cons (pe_call G_p_is_valid_name (hr.mono (by first | decide | omega)) (by rfl) T.g_p_is_valid_name T.F_p_is_valid_name.kp T.b_p_is_valid_name .nil pass0 (pa_cons (pv 5) pa_nil)) (pa_cons (pe_callN0 G_p_is_valid_name (hr.mono (by first | decide | omega)) (by rfl) T.g_p_is_valid_name T.F_p_is_valid_name.kp kb_p_is_valid_name_0_thing pass0 (pk_cons (pv 5) pk_nil)) pa_nil))) (pa_cons (pe_op op_rep (pe_lst (pa_cons (pe_call G_l_is_name (hr.mono (by first | decide | omega)) (by rfl) T.g_l_is_name T.F_l_is_name.kp T.b_l_is_name .nil pass0 (pa_cons (pv 5) pa_nil)) pa_nil)) pe_int) pa_nil))))) (pss_one (ps_ret pe_bl)) pss_nil))))))
          (pss_one (ps_ret (pe_call G_l_equal (hr.mono (by first | decide | omega)) (by rfl) T.g_l_equal T.F_l_equal.kp T.b_l_equal .nil pass0 (pa_cons (pe_lst (pa_cons (pe_call G_p_is_valid_name (hr.mono (by first | decide | omega)) (by rfl) T.g_p_is_valid_name T.F_p_is_valid_name.kp T.b_p_is_valid_name .nil pass0 (pa_cons pe_str pa_nil)) (pa_cons (pe_call G_p_is_valid_name (hr.mono (by first | decide | omega)) (by rfl) T.g_p_is_valid_name T.F_p_is_valid_name.kp T.b_p_is_valid_name .nil pass0 (pa_cons pe_str pa_nil)) (pa_cons (pe_call G_p_is_valid_name (hr.mono (by first | decide | omega)) (by rfl) T.g_p_is_valid_name T.F_p_is_valid_name.kp T.b_p_is_valid_name .nil pass0 (pa_cons pe_str pa_nil)) pa_nil)))) (pa_cons (pe_lst (pa_cons pe_bl (pa_cons pe_bl (pa_cons pe_bl pa_nil)))) pa_nil))))))), ?_⟩
    refine ⟨.ref b, rfl, b, ns, rfl, hS, hlen, fun H0 r s0 nr R0 => ?_⟩
    refine ⟨10, rfl, by decide, by decide, for_range (n := 10) (fun _ σ H' => ∃ y2 y3 y4 y5 y6, σ = [some (.ref b), some (.ref r), y2, y3, y4, y5, y6] ∧ Rg H' r) ⟨none, none, none, none, none, rfl, R0⟩ ?_ ?_⟩
    · rintro i σ H1 hi ⟨y2, y3, y4, y5, y6, rfl, R1⟩
      refine ⟨⟨_, rfl⟩, .ref r, rfl, r, 9, rfl, R1, by decide, by decide, fun q H2 q0 q1 k2 R2 => ?_⟩
      refine ⟨q, rfl, by omega, by omega, fun D nD => ?_⟩
      have Dr : D ≠ r := R2.ne nD
      refine ⟨fun i m H3 => i + m = q.toNat ∧ Kp r H2 H3 ∧ Rg H3 r ∧ ∃ ys : List Str, H3 D = some (.lst (ys.map V.str)) ∧ ys.length = i ∧ ∀ y ∈ ys, y.length = 1, ⟨q.toNat, by omega, Kp.of (Same.new nD), R2.same (Same.new nD), [], upd_same, rfl, fun y hy => by cases hy⟩, fun i m H3 hW => ?_⟩
      obtain ⟨em, k3, R3, ys, hD, hys, hy1⟩ := hW
      by_cases hi : i < q.toNat
      · refine .inr ⟨hi, fun H4 => Kp r H2 H4 ∧ Rg H4 r ∧ ∃ ys : List Str, H4 D = some (.lst (ys.map V.str)) ∧ ys.length = i + 1 ∧ ∀ y ∈ ys, y.length = 1, fun H4 hN => ⟨m - 1, by omega, by omega, hN⟩, fun v H4 hy => ?_⟩
        obtain ⟨rfl, rfl⟩ := hy
        refine ⟨rfl, tYes_if ?_⟩
        refine ⟨.ref r, rfl, r, .str "abcdefghijklmnopqrstuvwxyz", _, rfl, R3, .inr ⟨_, rfl, rfl⟩, by decide +kernel, by decide +kernel, fun x hx H5 k5 R5 => ?_⟩
        obtain ⟨c, _, rfl⟩ := List.mem_map.mp hx
        refine ⟨_, k5.1 _ _ Dr hD, by rw [List.length_map]; exact szl (by omega), ?_, ?_, ys ++ [⟨#[c]⟩], ?_, ?_, ?_⟩
        · exact (k3.trans k5).put (H := H2) nD Dr
        · exact R2.put nD (k3.trans k5) R5
        · rw [upd_same, List.map_append]; rfl
        · rw [List.length_append, hys]; rfl
        · intro y hy
          rcases List.mem_append.mp hy with h | h
          · exact hy1 y h
          · rw [List.mem_singleton.mp h]; rfl
      · have ei : i = q.toNat := by omega
        subst ei
        have jl := join_len0 ys hy1
        refine .inl ⟨Nat.le_refl _, _, D, ys, rfl, rfl, .inl (SqL.of hD), ?_, ?_⟩
        · rw [sum_ones ys hy1]
          show ys.length + ys.length * 0 ≤ _
          omega
        refine ⟨sz (by show 8 ≤ 100000; decide), fun lw nlw => ?_⟩
        have sw := Same.new (o := .lst [.str "max", .str "min", .str "median", .str "mix", .str "maxim", .str "mixed", .str "", .str "media"]) nlw
        have lwr : lw ≠ r := R3.ne nlw
        refine ⟨.ref r, rfl, .str _, rfl, .str _, rfl, .ref r, rfl, .ref lw, rfl, r, .ref lw, _, rfl, R3.same sw, .inl ⟨lw, rfl, lwr, .inl (SqL.of upd_same)⟩, by show 0 < 8; decide, by show 8 ≤ 100000; decide, fun x hx H5 k5 R5 => ?_⟩
        obtain ⟨zw, rfl, hzw⟩ : ∃ z : Str, x = .str z ∧ z.length ≤ 6 := by
          simp only [List.mem_cons, List.not_mem_nil, or_false] at hx
          rcases hx with h | h | h | h | h | h | h | h <;> exact ⟨_, h, by decide +kernel⟩
        refine ⟨.ref r, rfl, .str _, rfl, sz (by show 6 ≤ 100000; decide), fun ls nls => ?_⟩
        have ss := Same.new (o := .lst [.str "A", .str "1", .str " ", .str "-", .str "_", .str "~"]) nls
        refine ⟨r, _, ls, ["A", "1", " ", "-", "_", "~"], rfl, R5.same ss, R5.ne nls, SqL.of upd_same, by decide, by decide, by decide +kernel, by omega, fun zm H6 hzm k6 R6 => ?_⟩
        refine ⟨sz (by show 4 ≤ 100000; decide), fun l nl => ?_⟩
        refine ⟨r, .ref l, _, rfl, R6.same (Same.new nl), .inl ⟨l, rfl, R6.ne nl, .inl (SqL.of upd_same)⟩, by show 0 < 4; decide, by show 4 ≤ 100000; decide, fun x hx H7 k7 R7 => ?_⟩
        obtain ⟨z, rfl, hz⟩ : ∃ z : Str, x = .str z ∧ z.length ≤ 3000 := by
          simp only [List.mem_cons, List.not_mem_nil, or_false] at hx
          rcases hx with h | h | h | h
          · exact ⟨_, h, by omega⟩
          · exact ⟨_, h, by omega⟩
          · exact ⟨_, h, by omega⟩
          · exact ⟨_, h, by omega⟩
        refine ⟨.str z, rfl, .str z, rfl, .inl ⟨z, rfl, by omega, fun H8 s8 => ?_⟩⟩
        refine ⟨.str z, rfl, rfl, .str z, rfl, .inl ⟨z, rfl, by omega, fun H9 s9 => ?_⟩⟩
        refine ⟨sz (by show 2 ≤ 100000; decide), fun la nla => ?_⟩
        refine ⟨.str z, rfl, z, rfl, by omega, fun HA sA => ?_⟩
        refine ⟨sz (by show 1 ≤ 100000; decide), fun lb nlb => ?_⟩
        refine ⟨lb, 2, _, rfl, rfl, upd_same, by decide, by decide, sz (by show 2 ≤ 100000; decide), fun lc nlc => ?_⟩
        have sla : Same _ (upd H9 la (.lst [.bl (nameB z), .bl (nameB z)])) := Same.new nla
        have slb : Same HA (upd HA lb (.lst [.bl (nameB z)])) := Same.new nlb
        have slc : Same _ (upd (upd HA lb (.lst [.bl (nameB z)])) lc (.lst [.bl (nameB z), .bl (nameB z)])) := Same.new nlc
        have hla := (sA.trans (slb.trans slc)) la _ upd_same
        refine ⟨.ref la, .ref lc, rfl, Eqd.mono (Eqd.lst (n := 0) (SqL.of hla) (SqL.of upd_same) rfl (by show 2 ≤ 100000; decide) (all2_cons (Eqd.atom rfl) (all2_cons (Eqd.atom rfl) all2_nil))) (by decide), fun HB sB => ⟨true, rfl, iteF ?_⟩⟩
        exact ⟨_, _, _, _, _, rfl, R7.same (s8.trans (s9.trans (sla.trans (sA.trans (slb.trans (slc.trans sB))))))⟩
    · rintro σ H1 ⟨y2, y3, y4, y5, y6, rfl, R1⟩
      refine ⟨.str "abcdef", rfl, .inl ⟨_, rfl, by decide +kernel, fun H2 s2 => ?_⟩⟩
      refine ⟨.str "abcdefg", rfl, .inl ⟨_, rfl, by decide +kernel, fun H3 s3 => ?_⟩⟩
      refine ⟨.str "", rfl, .inl ⟨_, rfl, by decide +kernel, fun H4 s4 => ?_⟩⟩
      rw [n_a, n_b, n_c]
      refine ⟨sz (by show 3 ≤ 100000; decide), fun l1 m1 => ⟨sz (by show 3 ≤ 100000; decide), fun l2 m2 => ?_⟩⟩
      refine ⟨.ref l1, .ref l2, rfl, Eqd.mono (Eqd.lst (n := 0) (SqL.of (by rw [upd_ne (ne_of_none upd_same m2)]; exact upd_same)) (SqL.of upd_same) rfl (by show 3 ≤ 100000; decide) ?_) (by decide), fun H' _ => w H'⟩
      exact all2_cons (Eqd.atom rfl) (all2_cons (Eqd.atom rfl) (all2_cons (Eqd.atom rfl) all2_nil))
end
theorem all_mk {l : PySem.W.OpenLaw} {w : World} {K : PySem.W.Frag} {h : Heap} {mg : Str → Option Value} {fa : Addr} (X : K.In h) (G : h.Ns mainGlobals mg) (hfa : mg "law" = some (.ref fa))
    {od0 an0 : Option Addr} {sl0 : Array (Option Value)} {oc0 kV0 dc0 pm0 cd0 ct0 : Value} {f0 : Addr}
    {od1 an1 : Option Addr} {sl1 : Array (Option Value)} {oc1 kV1 dc1 pm1 cd1 ct1 : Value} {f1 : Addr}
    {od2 an2 : Option Addr} {sl2 : Array (Option Value)} {oc2 kV2 dc2 pm2 cd2 ct2 : Value} {f2 : Addr}
    {od3 an3 : Option Addr} {sl3 : Array (Option Value)} {oc3 kV3 dc3 pm3 cd3 ct3 : Value} {f3 : Addr}
    {od4 an4 : Option Addr} {sl4 : Array (Option Value)} {oc4 kV4 dc4 pm4 cd4 ct4 : Value} {f4 : Addr}
    {od5 an5 : Option Addr} {sl5 : Array (Option Value)} {oc5 kV5 dc5 pm5 cd5 ct5 : Value} {f5 : Addr}
    {od6 an6 : Option Addr} {sl6 : Array (Option Value)} {oc6 kV6 dc6 pm6 cd6 ct6 : Value} {f6 : Addr}
    {od7 an7 : Option Addr} {sl7 : Array (Option Value)} {oc7 kV7 dc7 pm7 cd7 ct7 : Value} {f7 : Addr}
    {od8 an8 : Option Addr} {sl8 : Array (Option Value)} {oc8 kV8 dc8 pm8 cd8 ct8 : Value} {f8 : Addr}
    {o_KEYWORDS : Addr} {od_KEYWORDS : Option Addr} {on_KEYWORDS : Nat} {os_KEYWORDS : Array (Option Value)} {tk_KEYWORDS_0 tk_KEYWORDS_1 tk_KEYWORDS_2 tk_KEYWORDS_3 : Tok}
    {tk_MAX_NAME : Tok}
    (a0 : PySem.W.nsIn K mainGlobals "is_valid_name" = some (some (.ref f0))) (l0 : K.lookup f0 = some ⟨oc0, od0, .func (PySem.W.fnOf "is_valid_name" "is_valid_name" (defArgs s_p_is_valid_name) (defBody s_p_is_valid_name) (defScope s_p_is_valid_name) .none kV0 dc0 pm0 an0 cd0 ct0), sl0⟩) (c0 : PySem.W.codeIn K cd0 "is_valid_name" = true) (k0 : PySem.W.keepIn K (.ref f0) = true)
    (a1 : PySem.W.nsIn K mainGlobals "_law_source" = some (some (.ref f1))) (l1 : K.lookup f1 = some ⟨oc1, od1, .func (PySem.W.fnOf "_law_source" "_law_source" (defArgs s_l_source) (defBody s_l_source) (defScope s_l_source) .none kV1 dc1 pm1 an1 cd1 ct1), sl1⟩) (c1 : PySem.W.codeIn K cd1 "_law_source" = true) (k1 : PySem.W.keepIn K (.ref f1) = true)
    (a2 : PySem.W.nsIn K mainGlobals "_law_draw" = some (some (.ref f2))) (l2 : K.lookup f2 = some ⟨oc2, od2, .func (PySem.W.fnOf "_law_draw" "_law_draw" (defArgs s_l_draw) (defBody s_l_draw) (defScope s_l_draw) .none kV2 dc2 pm2 an2 cd2 ct2), sl2⟩) (c2 : PySem.W.codeIn K cd2 "_law_draw" = true) (k2 : PySem.W.keepIn K (.ref f2) = true)
    (a3 : PySem.W.nsIn K mainGlobals "_law_choice" = some (some (.ref f3))) (l3 : K.lookup f3 = some ⟨oc3, od3, .func (PySem.W.fnOf "_law_choice" "_law_choice" (defArgs s_l_choice) (defBody s_l_choice) (defScope s_l_choice) .none kV3 dc3 pm3 an3 cd3 ct3), sl3⟩) (c3 : PySem.W.codeIn K cd3 "_law_choice" = true) (k3 : PySem.W.keepIn K (.ref f3) = true)
    (a4 : PySem.W.nsIn K mainGlobals "_law_equal" = some (some (.ref f4))) (l4 : K.lookup f4 = some ⟨oc4, od4, .func (PySem.W.fnOf "_law_equal" "_law_equal" (defArgs s_l_equal) (defBody s_l_equal) (defScope s_l_equal) .none kV4 dc4 pm4 an4 cd4 ct4), sl4⟩) (c4 : PySem.W.codeIn K cd4 "_law_equal" = true) (k4 : PySem.W.keepIn K (.ref f4) = true)
    (a5 : PySem.W.nsIn K mainGlobals "_law_letters" = some (some (.ref f5))) (l5 : K.lookup f5 = some ⟨oc5, od5, .func (PySem.W.fnOf "_law_letters" "_law_letters" (defArgs s_l_letters) (defBody s_l_letters) (defScope s_l_letters) .none kV5 dc5 pm5 an5 cd5 ct5), sl5⟩) (c5 : PySem.W.codeIn K cd5 "_law_letters" = true) (k5 : PySem.W.keepIn K (.ref f5) = true)
    (a6 : PySem.W.nsIn K mainGlobals "_law_is_name" = some (some (.ref f6))) (l6 : K.lookup f6 = some ⟨oc6, od6, .func (PySem.W.fnOf "_law_is_name" "_law_is_name" (defArgs s_l_is_name) (defBody s_l_is_name) (defScope s_l_is_name) .none kV6 dc6 pm6 an6 cd6 ct6), sl6⟩) (c6 : PySem.W.codeIn K cd6 "_law_is_name" = true) (k6 : PySem.W.keepIn K (.ref f6) = true)
    (a7 : PySem.W.nsIn K mainGlobals "_law_mutate_text" = some (some (.ref f7))) (l7 : K.lookup f7 = some ⟨oc7, od7, .func (PySem.W.fnOf "_law_mutate_text" "_law_mutate_text" (defArgs s_l_mutate_text) (defBody s_l_mutate_text) (defScope s_l_mutate_text) .none kV7 dc7 pm7 an7 cd7 ct7), sl7⟩) (c7 : PySem.W.codeIn K cd7 "_law_mutate_text" = true) (k7 : PySem.W.keepIn K (.ref f7) = true)
    (a8 : PySem.W.nsIn K mainGlobals "law" = some (some (.ref f8))) (l8 : K.lookup f8 = some ⟨oc8, od8, .func (PySem.W.fnOf "law" "law" (defArgs s_p_law) (defBody s_p_law) (defScope s_p_law) .none kV8 dc8 pm8 an8 cd8 ct8), sl8⟩) (c8 : PySem.W.codeIn K cd8 "law" = true) (k8 : PySem.W.keepIn K (.ref f8) = true)
    (z0 : PySem.W.nsIn K mainGlobals "all" = some none)
    (z1 : PySem.W.nsIn K mainGlobals "isinstance" = some none)
    (z2 : PySem.W.nsIn K mainGlobals "str" = some none)
    (z3 : PySem.W.nsIn K mainGlobals "len" = some none)
    (z4 : PySem.W.nsIn K mainGlobals "list" = some none)
    (z5 : PySem.W.nsIn K mainGlobals "tuple" = some none)
    (z6 : PySem.W.nsIn K mainGlobals "bool" = some none)
    (z7 : PySem.W.nsIn K mainGlobals "int" = some none)
    (z8 : PySem.W.nsIn K mainGlobals "zip" = some none)
    (z9 : PySem.W.nsIn K mainGlobals "range" = some none)
    (q_KEYWORDS : PySem.W.nsIn K mainGlobals "KEYWORDS" = some (some (.ref o_KEYWORDS))) (m_KEYWORDS : K.lookup o_KEYWORDS = some ⟨.type "tuple", od_KEYWORDS, .seq #[.str "max" tk_KEYWORDS_0, .str "min" tk_KEYWORDS_1, .str "median" tk_KEYWORDS_2, .str "mix" tk_KEYWORDS_3] on_KEYWORDS, os_KEYWORDS⟩)
    (q_MAX_NAME : PySem.W.nsIn K mainGlobals "MAX_NAME" = some (some (.int 6 tk_MAX_NAME)))
    : ∃ fd : FuncData, (∀ (s : Shared) (v : Value), BindsTo s fd ⟨[v], []⟩ [("_law_script", v)]) ∧ ∀ base : Heap, K.In base → base.Ns mainGlobals mg → FnOk l.prog w K mg base CX0 22 fa fd ["_law_script"] (sp_p_law K) := by
  have e := hfa.symm.trans (PySem.W.mg_of X G a8)
  cases e
  have F0 := fun_mk (st := s_p_is_valid_name) l0 c0 k0
  have b0 := F0.binds (ps := ["thing"]) fun _ _ _ _ _ _ us hl => match us, hl with | [_], _ => rfl
  have F1 := fun_mk (st := s_l_source) l1 c1 k1
  have b1 := F1.binds (ps := ["_law_script"]) fun _ _ _ _ _ _ us hl => match us, hl with | [_], _ => rfl
  have F2 := fun_mk (st := s_l_draw) l2 c2 k2
  have b2 := F2.binds (ps := ["_law_rng", "_law_quantity"]) fun _ _ _ _ _ _ us hl => match us, hl with | [_, _], _ => rfl
  have F3 := fun_mk (st := s_l_choice) l3 c3 k3
  have b3 := F3.binds (ps := ["_law_rng", "_law_some"]) fun _ _ _ _ _ _ us hl => match us, hl with | [_, _], _ => rfl
  have F4 := fun_mk (st := s_l_equal) l4 c4 k4
  have b4 := F4.binds (ps := ["_law_result", "_law_expected"]) fun _ _ _ _ _ _ us hl => match us, hl with | [_, _], _ => rfl
  have F5 := fun_mk (st := s_l_letters) l5 c5 k5
  have b5 := F5.binds (ps := []) fun _ _ _ _ _ _ us hl => match us, hl with | [], _ => rfl
  have F6 := fun_mk (st := s_l_is_name) l6 c6 k6
  have b6 := F6.binds (ps := ["_law_text"]) fun _ _ _ _ _ _ us hl => match us, hl with | [_], _ => rfl
  have F7 := fun_mk (st := s_l_mutate_text) l7 c7 k7
  have b7 := F7.binds (ps := ["_law_rng", "_law_text", "_law_signs"]) fun _ _ _ _ _ _ us hl => match us, hl with | [_, _, _], _ => rfl
  have F8 := fun_mk (st := s_p_law) l8 c8 k8
  have b8 := F8.binds (ps := ["_law_script"]) fun _ _ _ _ _ _ us hl => match us, hl with | [_], _ => rfl
  have kb_p_is_valid_name_0_thing : ∃ g, KBn K (PySem.W.fnOf "is_valid_name" "is_valid_name" (defArgs s_p_is_valid_name) (defBody s_p_is_valid_name) (defScope s_p_is_valid_name) .none kV0 dc0 pm0 an0 cd0 ct0) ["thing"] 0 ["thing"] g kg_p_is_valid_name_0_thing := ⟨kg_p_is_valid_name_0_thing, ⟨fun s us ws _ h1 h2 => match us, ws, h1, h2 with | [], [_], _, _ => .of_eq rfl, fun {vs us zs ws} r1 r2 => kgr_p_is_valid_name_0_thing r1 r2⟩⟩
  let A : Ad := { f_p_is_valid_name := f0, fd_p_is_valid_name := PySem.W.fnOf "is_valid_name" "is_valid_name" (defArgs s_p_is_valid_name) (defBody s_p_is_valid_name) (defScope s_p_is_valid_name) .none kV0 dc0 pm0 an0 cd0 ct0, f_l_source := f1, fd_l_source := PySem.W.fnOf "_law_source" "_law_source" (defArgs s_l_source) (defBody s_l_source) (defScope s_l_source) .none kV1 dc1 pm1 an1 cd1 ct1, f_l_draw := f2, fd_l_draw := PySem.W.fnOf "_law_draw" "_law_draw" (defArgs s_l_draw) (defBody s_l_draw) (defScope s_l_draw) .none kV2 dc2 pm2 an2 cd2 ct2, f_l_choice := f3, fd_l_choice := PySem.W.fnOf "_law_choice" "_law_choice" (defArgs s_l_choice) (defBody s_l_choice) (defScope s_l_choice) .none kV3 dc3 pm3 an3 cd3 ct3, f_l_equal := f4, fd_l_equal := PySem.W.fnOf "_law_equal" "_law_equal" (defArgs s_l_equal) (defBody s_l_equal) (defScope s_l_equal) .none kV4 dc4 pm4 an4 cd4 ct4, f_l_letters := f5, fd_l_letters := PySem.W.fnOf "_law_letters" "_law_letters" (defArgs s_l_letters) (defBody s_l_letters) (defScope s_l_letters) .none kV5 dc5 pm5 an5 cd5 ct5, f_l_is_name := f6, fd_l_is_name := PySem.W.fnOf "_law_is_name" "_law_is_name" (defArgs s_l_is_name) (defBody s_l_is_name) (defScope s_l_is_name) .none kV6 dc6 pm6 an6 cd6 ct6, f_l_mutate_text := f7, fd_l_mutate_text := PySem.W.fnOf "_law_mutate_text" "_law_mutate_text" (defArgs s_l_mutate_text) (defBody s_l_mutate_text) (defScope s_l_mutate_text) .none kV7 dc7 pm7 an7 cd7 ct7, f_p_law := fa, fd_p_law := PySem.W.fnOf "law" "law" (defArgs s_p_law) (defBody s_p_law) (defScope s_p_law) .none kV8 dc8 pm8 an8 cd8 ct8, o_KEYWORDS := o_KEYWORDS, tk_MAX_NAME := tk_MAX_NAME }
  have T : Txt K mg A := { F_p_is_valid_name := F0, g_p_is_valid_name := PySem.W.mg_of X G a0, b_p_is_valid_name := b0, F_l_source := F1, g_l_source := PySem.W.mg_of X G a1, b_l_source := b1, F_l_draw := F2, g_l_draw := PySem.W.mg_of X G a2, b_l_draw := b2, F_l_choice := F3, g_l_choice := PySem.W.mg_of X G a3, b_l_choice := b3, F_l_equal := F4, g_l_equal := PySem.W.mg_of X G a4, b_l_equal := b4, F_l_letters := F5, g_l_letters := PySem.W.mg_of X G a5, b_l_letters := b5, F_l_is_name := F6, g_l_is_name := PySem.W.mg_of X G a6, b_l_is_name := b6, F_l_mutate_text := F7, g_l_mutate_text := PySem.W.mg_of X G a7, b_l_mutate_text := b7, F_p_law := F8, g_p_law := PySem.W.mg_of X G a8, b_p_law := b8, n_all := PySem.W.mg_none_of X G z0, n_isinstance := PySem.W.mg_none_of X G z1, n_str := PySem.W.mg_none_of X G z2, n_len := PySem.W.mg_none_of X G z3, n_list := PySem.W.mg_none_of X G z4, n_tuple := PySem.W.mg_none_of X G z5, n_bool := PySem.W.mg_none_of X G z6, n_int := PySem.W.mg_none_of X G z7, n_zip := PySem.W.mg_none_of X G z8, n_range := PySem.W.mg_none_of X G z9, c_KEYWORDS := PySem.W.mg_of X G q_KEYWORDS, t_KEYWORDS := fun H => .inr ⟨_, _, _, m_KEYWORDS, rfl, rfl, (by show 4 ≤ sizeLine; decide), (.cons ⟨_, rfl⟩ (.cons ⟨_, rfl⟩ (.cons ⟨_, rfl⟩ (.cons ⟨_, rfl⟩ .nil))))⟩, c_MAX_NAME := PySem.W.mg_of X G q_MAX_NAME, kb_p_is_valid_name_0_thing := kb_p_is_valid_name_0_thing }
  exact ⟨PySem.W.fnOf "law" "law" (defArgs s_p_law) (defBody s_p_law) (defScope s_p_law) .none kV8 dc8 pm8 an8 cd8 ct8, fun s v => .of_eq rfl, fun base _ _ => ok_p_law (a := A) T⟩
end Gait
open PySem PySem.W PyProof.Rows
set_option maxRecDepth 100000 in
set_option maxHeartbeats 0 in
theorem PySem.Challenge.cw_gaithold_k06_valid_names_holds : PySem.Challenge.rw_gaithold_k06_valid_names.Holds := by
  w_on; o_law; k_head; (case hw => w_witness2)
  k_fill
  refine L2.walk_of (l := PySem.Challenge.rw_gaithold_k06_valid_names) (n := 63) (k := 22) (x := "_law_script") (CX := fun _ => L2.CX0) (sp := fun w => Gait.sp_p_law _) rfl (by decide) rfl ⟨rfl, by decide, by decide⟩ (fun w h Y => PySem.W.kIn_of Y) ?F (fun _ _ a ns hl _ hS => ⟨a, ns, rfl, hS, hl, fun _ => rfl⟩) (fun _ _ _ _ _ h => h)
  case F =>
    intro w mg fa h KX G hmg
    refine' Gait.all_mk KX G hmg ?a0 ?l0 ?c0 ?k0 ?a1 ?l1 ?c1 ?k1 ?a2 ?l2 ?c2 ?k2 ?a3 ?l3 ?c3 ?k3 ?a4 ?l4 ?c4 ?k4 ?a5 ?l5 ?c5 ?k5 ?a6 ?l6 ?c6 ?k6 ?a7 ?l7 ?c7 ?k7 ?a8 ?l8 ?c8 ?k8 ?z0 ?z1 ?z2 ?z3 ?z4 ?z5 ?z6 ?z7 ?z8 ?z9 ?q_KEYWORDS ?m_KEYWORDS ?q_MAX_NAME
    (case a0 => k_is); (case l0 => k_is); (case c0 => k_is); (case k0 => k_is); (case a1 => k_is); (case l1 => k_is); (case c1 => k_is); (case k1 => k_is); (case a2 => k_is); (case l2 => k_is); (case c2 => k_is); (case k2 => k_is); (case a3 => k_is); (case l3 => k_is); (case c3 => k_is); (case k3 => k_is); (case a4 => k_is); (case l4 => k_is); (case c4 => k_is); (case k4 => k_is); (case a5 => k_is); (case l5 => k_is); (case c5 => k_is); (case k5 => k_is); (case a6 => k_is); (case l6 => k_is); (case c6 => k_is); (case k6 => k_is); (case a7 => k_is); (case l7 => k_is); (case c7 => k_is); (case k7 => k_is); (case a8 => k_is); (case l8 => k_is); (case c8 => k_is); (case k8 => k_is); (case z0 => k_is); (case z1 => k_is); (case z2 => k_is); (case z3 => k_is); (case z4 => k_is); (case z5 => k_is); (case z6 => k_is); (case z7 => k_is); (case z8 => k_is); (case z9 => k_is); (case q_KEYWORDS => k_is); (case m_KEYWORDS => k_is); (case q_MAX_NAME => k_is)
