import PyProof.Rows.All
import Wide.All
import OpenK.AllK
import Wide.FinOn
import PySem.Challenge.RW_gaithold_k10_whole_terms_are_monotone_an
import HandS.ForMost
import HandS.Wide
import HandS.IsInst
import HandS.Zip
import HandS.Codes
import HandS.Defaults
import HandS.Deep
import HandS.Style
import KE.GoesMore
import HandS.Strs
import HandS.SortKw
import HandS.Iter
import KE.GoesZip
set_option Elab.async false
set_option linter.all false
set_option maxRecDepth 100000
set_option maxHeartbeats 4000000
namespace EnT
open PySem PySem.Spec PyProof.Rows L2
/-- a fresh enumerate over the iterator at j -/
abbrev enO (j : Addr) : Obj := { cls := .type "enumerate", data := .fields #[.none, .bool false, .ref j, rawInt 0, .none, .none] }
theorem en_new {v : Value} {oi : Obj} {Hh : Heap → Prop} (B : Begins v oi Hh) :
    Meets (Builtin.«enumerate.__new__» ⟨[.type "enumerate", v], []⟩) (fun _ R s => Hh s.heap ∧ R (.ok (.ret (.ref (s.heap.push oi).objs.size))) { s with heap := (s.heap.push oi).push (enO s.heap.objs.size) }) :=
  .of_wp fun prog w A R s hyp => by
    obtain ⟨mem, gg, dd, tt, sys⟩ := s
    obtain ⟨okv, fin⟩ := hyp
    have hsub := sub_enumerate
    have step : ∀ {A2 : Around} {E2 : Value → Shared → Prop} {Q2 : Value → Shared → Prop}, Q2 (.ref mem.objs.size) ⟨mem.push oi, gg, dd, tt, sys⟩ → wpAny (model prog w) A2 (pyIter v) Q2 E2 ⟨mem, gg, dd, tt, sys⟩ :=
      fun z => B.iter prog w _ _ ⟨mem, gg, dd, tt, sys⟩ _ okv z
    wp_walk using step
    refine wpAny_stack_any fun _ => wpAny_pure ?_
    split
    · rename_i cc _ _ _ _ _
      cases (cc == Value.type "enumerate") <;> (wp_walk using step; exact ⟨_, rfl, fin⟩)
    · (wp_walk using step); exact ⟨_, rfl, fin⟩
theorem en_call {prog : Program} {w : World} {A : Around} {E : Value → Shared → Prop} {s : Shared} {v : Value} {oi : Obj} {Hh : Heap → Prop} {Q : Value → Shared → Prop} (B : Begins v oi Hh) (okv : Hh s.heap)
    (fin : ∀ h2, IsEnum h2 (s.heap.objs.size + 1) s.heap.objs.size 0 .none → h2.get? s.heap.objs.size = some oi → (∀ b o, s.heap.get? b = some o → h2.get? b = some o) → Q (.ref (s.heap.objs.size + 1)) { s with heap := h2 }) :
    wpAny (model prog w) A (call (.type "enumerate") [v]) Q E s := by
  refine callType_new F.called_enumerate (by decide) (F.typeCall_enumerate_1 v) (F.newCall_enumerate_1 v) (fun ob => F.args_object_init_2 ob v) F.entry_enumerate_new (en_new B) ⟨okv, ?_⟩
  have sz1 : (s.heap.push oi).objs.size = s.heap.objs.size + 1 := Heap.size_push ..
  have isE : IsEnum ((s.heap.push oi).push (enO s.heap.objs.size)) (s.heap.objs.size + 1) s.heap.objs.size 0 .none := by
    have g := Heap.get?_push_size (s.heap.push oi) (o := enO s.heap.objs.size) rfl
    rw [sz1] at g
    exact g
  show _ ∧ _
  rw [sz1]
  exact ⟨⟨_, isE, rfl⟩, fin _ isE (Heap.get?_push_of_some _ (Heap.get?_push_size _ B.free)) fun b o z => Heap.get?_push_of_some _ (Heap.get?_push_of_some _ z)⟩
/-- the tuple at t, each item in a new pair -/
def Iet (K : PySem.W.Frag) (t : Addr) : It :=
  ⟨fun i H => ∃ (xs : List V) (x : V), SqT K H t xs ∧ xs[i]? = some x, fun i H v H' => ∃ pr x, v = .ref pr ∧ H pr = none ∧ H' = upd H pr (.tup [.int (i : Nat), x]) ∧ ∀ xs, SqT K H t xs → xs[i]? = some x, fun i H => ∃ xs : List V, SqT K H t xs ∧ xs.length ≤ i⟩
theorem ne_it {h : Heap} {t it : Addr} {i : Nat} {its : Array Value} (a : h.IsTuple t its) (b : h.IsTupleIter it t i) : t ≠ it := fun z => by
  obtain ⟨o1, e1, c1, _⟩ := a
  obtain ⟨o2, e2, c2, _⟩ := b
  rw [z, e2] at e1
  cases e1
  rw [c1] at c2
  exact absurd (Value.type.inj c2) (by decide)
theorem turn_enT {P : Program} {w : World} {K : PySem.W.Frag} {elts : List Expr} {kk : Nat} {tpos : Pos} (t e it : Addr) :
    Turn P w K (.Tuple elts kk tpos) (Iet K t) [e, it] e (fun i h => (∃ old, IsEnum h e it ((i : Nat) : Int) old) ∧ h.IsTupleIter it t i ∧ e ≠ it ∧ e ≠ t) where
  mem := List.mem_cons_self
  obj := fun i h tn b hb => by
    obtain ⟨⟨_, he⟩, ⟨o, ho, _, hd⟩, _⟩ := tn
    rcases List.mem_cons.mp hb with z | z
    · rw [z]; exact ⟨_, he, fun v y => nomatch y⟩
    · rw [List.mem_singleton.mp z]; exact ⟨o, ho, fun v y => by rw [hd] at y; cases y⟩
  keep := fun i h h' tn kp => by
    obtain ⟨⟨old, he⟩, hi, n1, n2⟩ := tn
    exact ⟨⟨old, kp e (by simp) _ he⟩, hi.at fun o z => kp it (by simp) o z, n1, n2⟩
  item := by
    intro X hP hw hK hc i pins s σ H E I hf tn hg
    subst hP hw hK
    obtain ⟨⟨old, he⟩, hit, n1, n2⟩ := tn
    obtain ⟨xs, x, hq, hx⟩ := hg
    obtain ⟨its, rv, tp, _⟩ := I.tuple hq
    obtain ⟨u, hu, ru⟩ := rv.get hx
    have tp' : s.heap.IsTuple t its.toArray := tp
    have le : e < s.heap.objs.size := Heap.lt_size he
    have li : it < s.heap.objs.size := by obtain ⟨_, y, _⟩ := hit; exact Heap.lt_size y
    have hi : i < its.toArray.size := by
      have := (List.getElem?_eq_some_iff.mp hu).1
      simpa using this
    have hd : X.A.in1.handled = none := I.ok.hd hc
    refine wpAny_pyNext_enum_itemD (Draws.tuple hd it t (ne_it tp' hit) its.toArray) he ⟨hit, tp'⟩ hi n1 (fun z => ?_) fun y h2 tk hy ho hst hT hsz kp => ?_
    · rcases List.mem_cons.mp z with z | z
      · exact n1 z
      · exact n2 (List.mem_singleton.mp z)
    have ey : y = u := by
      have : its.toArray[i]? = some y := hy
      rw [List.getElem?_toArray, hu] at this
      exact (Option.some.inj this).symm
    subst ey
    refine ⟨_, rfl, wpAny_letOwnedTupleGo_enum (s := { s with heap := h2, toks := tk + 1 }) ho fun h3 he3 sb => ?_⟩
    have hT3 : h3.get? s.heap.objs.size = some { cls := .type "tuple", data := .seq #[.int i tk, y] } := (sb.2 _ (Nat.ne_of_gt le)).trans hT
    have made : ObjOk X.prog X.w (upd H s.heap.objs.size (.tup [.int (i : Nat), x])) h3 s.heap.objs.size (.tup [.int (i : Nat), x]) := ⟨by show 2 ≤ sizeLine; decide, [.int i tk, y], .cons ⟨_, rfl⟩ (.cons ru .nil), ⟨_, hT3, rfl, _, rfl⟩⟩
    have I3 : Inv X pins σ (upd H s.heap.objs.size (.tup [.int (i : Nat), x])) { s with heap := h3, toks := tk + 1 } :=
      I.turnedNew (ch := [e, it]) (fun b ob nb z => (sb.2 b (fun y => nb (by simp [y]))).trans (kp b ob (fun y => nb (by simp [y])) (fun y => nb (by simp [y])) z)) hf (Nat.le_refl _) made
    refine ⟨.ref s.heap.objs.size, _, I3, rfl, ⟨_, x, rfl, I.hok.fresh (Nat.le_refl _), rfl, fun ys hys => by rw [I.tuple_inj hys hq]; exact hx⟩, ⟨⟨y, ?_⟩, hst.1.at fun o z => (sb.2 it (Ne.symm n1)).trans z, n1, n2⟩, fun b hb => ?_⟩
    · rw [show ((i + 1 : Nat) : Int) = (i : Int) + 1 by omega]; exact he3
    · have lb : b < s.heap.objs.size := by
        rcases List.mem_cons.mp hb with z | z
        · rw [z]; exact le
        · rw [List.mem_singleton.mp z]; exact li
      rw [upd_ne (Nat.ne_of_lt lb)]
      exact (hf b hb).1
  done := by
    intro X hP hw hK hc i pins s σ H E I hf tn hg
    subst hP hw hK
    obtain ⟨⟨old, he⟩, hit, n1, n2⟩ := tn
    obtain ⟨xs, hq, hx⟩ := hg
    obtain ⟨its, rv, tp, _⟩ := I.tuple hq
    have tp' : s.heap.IsTuple t its.toArray := tp
    obtain ⟨f0, f1, f2, f3, f4, f5⟩ := hf it (by simp)
    have hl := rv.length
    have hd : X.A.in1.handled = none := I.ok.hd hc
    have dr := Draws.tuple (prog := X.prog) (w := X.w) hd it t (ne_it tp' hit) its.toArray
    have D2 : Draws X.prog X.w X.A.in1 it [it, t] i (fun _ _ => False) (fun j h => j = i ∧ h.IsTupleIter it t i ∧ h.IsTuple t its.toArray) :=
      { live := fun _ _ st => let ⟨o, ho, _⟩ := st.2.1; ⟨o, ho⟩
        frame := fun _ _ _ st hk => ⟨st.1, st.2.1.at fun o z => hk it (by simp) o z, st.2.2.at fun o z => hk t (by simp) o z⟩
        item := fun j s Q E hj st hQ => absurd st.1 (Nat.ne_of_lt hj)
        done := fun s Q E st hE => wpAny_nextOf_tuple_end hd st.2.1 st.2.2 (by simp; omega) hE }
    exact wpAny_pyNext_enum_endD D2 he ⟨rfl, hit, tp'⟩ fun h' eb => ⟨rfl, I.turned (t' := s.toks) (fun b o nb z => eb b o nb z) f0 f1 f3 f4 f5⟩
  self := fun A i s Q E tn z => let ⟨⟨_, he⟩, _⟩ := tn; wpAny_pyIter_enum he z
def iEnT (K : PySem.W.Frag) (ta : TA) : TI := fun σ H R => ta σ H fun vs H1 => ∃ t xs, vs = [.ref t] ∧ SqT K H1 t xs ∧ R (Iet K t) H1
theorem pi_enumT {X : Cx} {e : Expr} {ta : TA} {p pos tpos : Pos} {elts : List Expr} {kk : Nat} (hg : Gl X "enumerate") (hm : X.mg "enumerate" = none) (ha : PA X [e] ta) (hs : starEach [e] X.env = [(false, eval e X.env)] := by rfl) :
    PI X (.Tuple elts kk tpos) (.Call (.Name "enumerate" p) [e] [] pos) (iEnT X.K ta) := by
  refine ⟨fun pins s σ H R I h => ?_⟩
  refine Call_ (ld_blt I hg hm boot_enumerate (PyProof.Rows.callWith_type1 (thn (ha.run pos pins s σ H _ I h) fun us s1 ⟨vs, H1, I1, r1, q1⟩ => ?_) hs rfl))
  obtain ⟨t, xs, ev, hq, fin⟩ := q1
  subst ev
  cases r1 with
  | cons r rr =>
    cases rr
    cases r
    obtain ⟨its, rv, tp, _⟩ := I1.tuple hq
    have tp' : s1.heap.IsTuple t its.toArray := tp
    obtain ⟨ot, hot, _⟩ := id tp'
    refine en_call (begins_tuple t its.toArray) tp' fun h2 isE hit kp => wpAny_pyIter_enum isE ?_
    refine ⟨s1.heap.objs.size + 1, [s1.heap.objs.size + 1, s1.heap.objs.size], _, _, H1, rfl, I1.kept (t' := s1.toks) kp, turn_enT t (s1.heap.objs.size + 1) s1.heap.objs.size, ⟨⟨.none, isE⟩, ⟨_, hit, rfl, rfl⟩, Nat.succ_ne_self _, fun z => ?_⟩, fun b hb => ?_, fin⟩
    · have lt := Heap.lt_size hot
      rw [← z] at lt
      exact absurd lt (Nat.not_lt.mpr (Nat.le_succ _))
    · have lb : s1.heap.objs.size ≤ b := by
        rcases List.mem_cons.mp hb with z | z
        · rw [z]; exact Nat.le_add_right _ _
        · rw [List.mem_singleton.mp z]; exact Nat.le_refl _
      exact I1.fpOk lb (I1.hok.fresh lb)
theorem pi_or {X : Cx} {tg it : Expr} {w1 w2 : TI} (a : PI X tg it w1) (b : PI X tg it w2) : PI X tg it (fun σ H R => w1 σ H R ∨ w2 σ H R) := ⟨fun pins s σ H R I h => h.elim (a.run pins s σ H R I) (b.run pins s σ H R I)⟩
end EnT

namespace StT
open PySem PySem.Spec PyProof.Rows L2
/-- what is known of a set built of the first i texts -/
def Known (xs : List Str) (i : Nat) (S : Str → Bool) (m : Nat) : Prop := (∀ k, S k = (xs.take i).any (· == k)) ∧ m ≤ i ∧ (m = i → (xs.take i).Nodup)
theorem Known.more {xs : List Str} {i m : Nat} {S : Str → Bool} {x : Str} (h : Known xs i S m) (hx : xs[i]? = some x) : Known xs (i + 1) (fun k => S k || decide (k = x)) (if S x then m else m + 1) := by
  obtain ⟨h1, h2, h3⟩ := h
  have tk : xs.take (i + 1) = xs.take i ++ [x] := by rw [List.take_add_one, hx]; rfl
  refine ⟨fun k => ?_, ?_, fun e => ?_⟩
  · rw [tk, List.any_append, ← h1 k]
    congr 1
    by_cases q : k = x
    · subst q; simp
    · have : (x == k) = false := by simpa [beq_iff_eq] using fun z : x = k => q z.symm
      simp [q, this]
  · split <;> omega
  · cases q : S x with
    | true => rw [q] at e; simp at e; omega
    | false =>
      rw [q] at e
      have em : m = i := by simpa using e
      rw [tk, List.nodup_append]
      refine ⟨h3 em, by simp, fun u hu v hv => ?_⟩
      rw [List.mem_singleton.mp hv]
      intro z
      subst z
      have := h1 u
      rw [q] at this
      have hany : (xs.take i).any (· == u) = true := List.any_eq_true.mpr ⟨u, hu, by simp⟩
      rw [hany] at this
      cases this
section
variable {prog : Program} {w : World} {A : Around} {R : Result → Shared → Prop} {I : Addr} {fp wr : List Addr} {G : Array GenState → Array GenState → Prop} {n : Nat} {P : Nat → Value → Prop} {St : Nat → Shared → Prop}
theorem fill (W : WalksS prog w A.in1 I fp wr G n P St) (S : Addr) (nS : S ∉ fp) (xs : List Str) (hn : xs.length = n) (small : n ≤ 1000) (hv : ∀ i v, P i v → ∃ t, v = .str (xs.getD i Str.empty) t) :
    ∀ (k i : Nat) (s : Shared) (F : Str → Bool) (m : Nat), n - i = k → i ≤ n → St i s → s.heap.SetOf (PySem.strKind prog w) S F m → Known xs i F m →
      (∀ s' F' m', Moved (S :: wr) G s s' → s'.heap.SetOf (PySem.strKind prog w) S F' m' → Known xs n F' m' → R (.ok (.ret .none)) s') → codeAny (model prog w) A (.builtin "set.update.loop" ⟨[.ref S, .ref I], []⟩) R s := by
  have nW : S ∉ wr := fun z => nS (W.sub _ z)
  have up : ∀ b ∈ wr, b ∈ S :: wr := fun b z => List.mem_cons_of_mem _ z
  intro k
  induction k with
  | zero =>
    intro i s F m hk hi hst hS hK fin
    obtain rfl : i = n := by omega
    refine codeAny_builtin PyProof.Rows.F.entry_set_update_loop ?_
    rw [Around.under_plainId PyProof.Rows.F.plain_set_update_loop _]
    refine wpAny_bind (W.done s _ _ hst fun s1 mv => wpAny_pure (fin s1 F m (mv.mono up) ?_ hK))
    obtain ⟨o, es, ep, tb, ho, more⟩ := hS; exact ⟨o, es, ep, tb, mv.heap S _ nW ho, more⟩
  | succ k ih =>
    intro i s F m hk hi hst hS hK fin
    have lt : i < n := by omega
    refine codeAny_builtin PyProof.Rows.F.entry_set_update_loop ?_
    rw [Around.under_plainId PyProof.Rows.F.plain_set_update_loop _]
    refine wpAny_bind (W.item i s _ _ lt hst fun v s1 hP st1 mv => ?_)
    obtain ⟨tt, rfl⟩ := hv i v hP
    have S1 : s1.heap.SetOf (PySem.strKind prog w) S F m := by obtain ⟨o, es, ep, tb, ho, more⟩ := hS; exact ⟨o, es, ep, tb, mv.heap S _ nW ho, more⟩
    have mi := hK.2.1
    refine wpAny_bind (wpAny_holding ?_)
    unfold setAdd
    refine wpAny_holding (wpAny_bind ((PySem.strKind prog w).pyHash (k := xs.getD i Str.empty) (strKind_is _ _ _ _) ?_))
    refine wpAny_setAddHashed_of (knd := PySem.strKind prog w) (s := { s1 with toks := s1.toks + 1 }) (strKind_is _ _ _ _) rfl S1 (by unfold scanBound; omega) fun h2 sb S2 => ?_
    have hx : xs[i]? = some (xs.getD i Str.empty) := by
      have l : i < xs.length := by omega
      rw [List.getElem?_eq_getElem l, List.getD_eq_getElem?_getD, List.getElem?_eq_getElem l]; rfl
    have away : ∀ b ∈ fp, b ≠ S := fun b hb z => nS (by rw [← z]; exact hb)
    refine wpAny_pure ⟨plainId_quiet PyProof.Rows.F.plain_set_update_loop _, ih (i + 1) _ _ _ (by omega) lt (W.frame _ s1 _ _ st1 (Nat.le_succ _) fun b hb o z => (sb.2 b (away b hb)).trans z) S2 (hK.more hx) fun s3 F3 m3 mv3 S3 K3 => ?_⟩
    exact fin s3 F3 m3 (Moved.trans W.gtrans ((mv.mono up).then_heap (Nat.le_succ _) fun b o hb z => (sb.2 b (fun y : b = S => hb (by rw [y]; exact List.mem_cons_self))).trans z) mv3) S3 K3
end
section
variable {prog : Program} {w : World} {A : Around} {E : Value → Shared → Prop} {s : Shared}
abbrev set0 (led : Bool) : Obj := { cls := .type "set", dict := none, data := .set #[] 0 (.fresh 0 0 led) }
set_option maxHeartbeats 3200000 in
theorem set_texts {l : Addr} {items : Array Value} {xs : List Str} {Q : Value → Shared → Prop} (hh : A.handled = none) (hl : s.heap.IsList l items) (hi : PyProof.Rows.StrsAre items.toList xs) (small : xs.length ≤ 1000)
    (fin : ∀ (h2 : Heap) (tk : Nat) (F : Str → Bool) (m : Nat), h2.SetOf (PySem.strKind prog w) s.heap.objs.size F m → Known xs xs.length F m → (∀ b o, b < s.heap.objs.size → s.heap.get? b = some o → h2.get? b = some o) → Q (.ref s.heap.objs.size) { s with heap := h2, toks := tk }) :
    wpAny (model prog w) A (call (.type "set") [.ref l]) Q E s := by
  obtain ⟨c, tl, hmro⟩ := PySem.F.called_set.mro
  have hmade := PySem.F.called_set.made; have hsub := PySem.F.called_set.sub
  refine wpAny_call (codeAny_of_tree ?_)
  show wpAny _ _ (callAny (.type "set") _) _ _ _
  refine wpAny_pure ⟨Code.quiet_builtin _ (by decide +kernel), codeAny_builtin PySem.F.entry_type_call ?_⟩
  rw [Around.under_plain (weight_type_call_type "set" [.ref l] []) rfl]
  have e1 := PySem.F.called_set.notType; have e2 := PySem.F.called_set.canCreate; have e3 := PySem.F.typeCall_set_1 (.ref l)
  repeat (any_goals (first | assumption | wp_step))
  refine codeAny_mono (code_set_new_1 (.ref l) (E := E) (Q₁ := fun ob s1 => ∃ led : Bool, ob = .ref s.heap.objs.size ∧ s1 = { s with heap := s.heap.push (set0 led) }) fun led => ⟨led, rfl, rfl⟩) fun r s1 hr => ?_
  cases r with
  | error e => exact hr
  | ok fl =>
    cases fl with
    | ret ob =>
      obtain ⟨led, rfl, rfl⟩ := hr
      have at0 : (s.heap.push (set0 led)).get? s.heap.objs.size = some (set0 led) := Heap.get?_push_size _ rfl
      have ty : Shared.TypeIs { s with heap := s.heap.push (set0 led) } (.ref s.heap.objs.size) "set" := ⟨_, at0, rfl⟩
      have i1 := PySem.F.called_set.init.lookup; have i2 := PySem.F.called_set.init.bind (.ref s.heap.objs.size)
      repeat (any_goals (first | assumption | wp_step))
      refine codeAny_mono (codeAny_call_builtin (R := wants (fun r s2 => r = .none ∧ ∃ h2 tk F m, s2 = { s with heap := h2, toks := tk } ∧ h2.SetOf (PySem.strKind prog w) s.heap.objs.size F m ∧ Known xs xs.length F m ∧
          (∀ b o, b < s.heap.objs.size → s.heap.get? b = some o → h2.get? b = some o)) E) PySem.F.called_set.init.plain PySem.F.entry_set_init (check_set_init_1 ty ?_)) fun r2 s2 hr2 => ?_
      · obtain ⟨⟨oc, odc, odt, osl⟩, hol, hcl, nl, hdl⟩ := hl
        simp only at hcl hdl
        subst hcl hdl
        have hol1 : (s.heap.push (set0 led)).get? l = some { cls := .type "list", dict := odc, data := .seq items nl, slots := osl } := Heap.get?_push_of_some _ hol
        have z1 := PySem.F.sub_list_set; have z2 := PySem.F.sub_list_frozenset
        have z3 : (Value.type "list" == Value.type "dict") = false := by decide
        have hl1 : (s.heap.push (set0 led)).IsList l items := ⟨_, hol1, rfl, nl, rfl⟩
        unfold Builtin.«set.__init__» noKeywords Builtin.Frozenset.updateFrom
        generalize hPI : pyIter = PI; wp_walk; subst hPI
        refine wpAny_pyIter_list hl1 (wpAny_bind (wpAny_runValue ?_))
        have lS : l < s.heap.objs.size := Heap.lt_size hol
        have hh3 : A.in1.in1.in1.handled = none := by simp [hh]
        have szp : (s.heap.push (set0 led)).objs.size = s.heap.objs.size + 1 := Heap.size_push ..
        have nI : l ≠ (s.heap.push (set0 led)).objs.size := by rw [szp]; exact Nat.ne_of_lt (Nat.lt_succ_of_lt lS)
        have nS : s.heap.objs.size ∉ [(s.heap.push (set0 led)).objs.size, l] := by
          rw [szp]; intro z
          rcases List.mem_cons.mp z with z | z
          · exact absurd z (Nat.ne_of_lt (Nat.lt_succ_self _))
          · exact absurd (List.mem_singleton.mp z) (Nat.ne_of_gt lS)
        have len : xs.length = items.size := by rw [← StrsAre.len_eq hi, Array.length_toList]
        have val : ∀ (i : Nat) (v : Value), items[i]? = some v → ∃ t, v = .str (xs.getD i Str.empty) t := fun i v z => SS.strs_at hi i v (by rw [Array.getElem?_toList]; exact z)
        refine fill ((Walks.list hh3 _ l nI items).toS) s.heap.objs.size nS xs len (by rw [← len]; exact small) val (items.size - 0) 0 _ (fun _ => false) 0 (by omega) (Nat.zero_le _) ⟨⟨_, Heap.get?_push_size _ rfl, rfl, rfl⟩, (hl1.push _)⟩ ?_ ⟨fun _ => rfl, Nat.le_refl _, fun _ => List.nodup_nil⟩ ?_
        · exact (PyProof.Rows.setObjOf_fresh (knd := PySem.strKind prog w) led).setOf (Heap.get?_push_of_some _ at0) (by unfold scanBound; omega)
        · intro s3 F3 m3 mv S3 K3
          obtain ⟨h3, g3, d3, t3, o3⟩ := s3
          obtain rfl : g3 = s.gens := mv.gens
          obtain rfl : d3 = s.drawn := mv.drawn
          obtain rfl : o3 = s.os := mv.os
          refine wpAny_pure (wpAny_pure ⟨rfl, h3, t3, F3, m3, rfl, S3, by rw [len]; exact K3, fun b o hb z => ?_⟩)
          refine mv.heap b o (fun y => ?_) (Heap.get?_push_of_some _ (Heap.get?_push_of_some _ z))
          rcases List.mem_cons.mp y with y | y
          · exact absurd y (Nat.ne_of_lt hb)
          · have y' := List.mem_singleton.mp y
            rw [szp] at y'
            exact absurd y' (Nat.ne_of_lt (Nat.lt_succ_of_lt hb))
      · cases r2 with
        | error e => exact hr2
        | ok fl2 =>
          cases fl2 with
          | ret r =>
            obtain ⟨rfl, h2, tk, F, m, rfl, S2, K2, kp⟩ := hr2
            repeat (any_goals (first | assumption | wp_step))
            exact fin _ _ _ _ S2 K2 kp
          | _ => exact hr2.elim
    | _ => exact hr.elim
end
/-- len(set(xs)) of a list of texts -/
def tLenSetT (K : PySem.W.Frag) (ta : TE) : TE := fun σ H Q => ta σ H fun x H1 => ∃ l, ∃ xs : List Str, x = .ref l ∧ SqL K H1 l (xs.map V.str) ∧ xs.length ≤ 1000 ∧ ∀ m : Nat, m ≤ xs.length → (m = xs.length → xs.Nodup) → Q (.int m) H1
theorem pe_lenSetT {X : Cx} {e : Expr} {ta : TE} {p p2 q pos : Pos} (hc : X.calm = true) (hg : Gl X "len") (hm : X.mg "len" = none) (hg2 : Gl X "set") (hm2 : X.mg "set" = none) (ha : PE X e ta)
    (na : starEach [e] X.env = (false, eval e X.env) :: starEach [] X.env := by rfl) : PE X (.Call (.Name "len" p) [.Call (.Name "set" p2) [e] [] q] [] pos) (tLenSetT X.K ta) := by
  refine ⟨fun pins s σ H Q I h => ?_⟩
  refine Call_ (ld_blt I hg hm boot_len (PyProof.Rows.callWith_builtin1 (PyProof.Rows.args_cons ?_ rfl) rfl rfl))
  refine Call_ (ld_blt I hg2 hm2 boot_set ?_)
  refine PyProof.Rows.callWith_type1 (PyProof.Rows.args_cons (thn (ha.run pins s σ H _ I h) fun v s1 ⟨x, H1, I1, r1, q1⟩ => PyProof.Rows.args_nil ?_) na) na rfl
  obtain ⟨l, xs, rfl, hq, small, q1⟩ := q1
  cases r1
  obtain ⟨its, rv, pl, hz⟩ := I1.list hq
  refine set_texts (I1.ok.hd hc) pl.isList (by simpa using strsAre_of rv) small fun h2 tk F m S2 K2 kp => PyProof.Rows.args_nil ?_
  obtain ⟨o, es, ep, t, ho, hex, hd, _, _, _, hf, hn⟩ := S2
  have I2 : Inv X pins σ H1 { s1 with heap := h2, toks := tk } := I1.kept fun b o z => kp b o (Heap.lt_size z) z
  have k1 := K2.2.1
  refine call_len_set ho hex hd hf (by rw [hn]; omega) ⟨.int m, H1, I2.tok _, ⟨_, by rw [hn]⟩, q1 m k1 fun z => ?_⟩
  have := K2.2.2 z
  rwa [List.take_length] at this
end StT

namespace MxD
open PySem PySem.Spec PyProof.Rows L2
/-! max(xs, default=d) of a list of ints -/
theorem name_loop : (toString "max" ++ toString ".loop" : String) = "max.loop" := by decide
abbrev best0 (vs : Array Value) (c : Nat) : Obj := { cls := .type "list", dict := none, data := .seq vs c, slots := #[] }
section
variable {prog : Program} {w : World} {A : Around} {R : Result → Shared → Prop} {I : Addr} {fp wr : List Addr} {n : Nat} {P : Nat → Value → Prop} {St : Nat → Heap → Prop}
theorem turns (Wk : Walks prog w A.in1 I fp wr n P St) (bt : Nat → Nat → Bool) (cmp : CmpOf prog w A.in1 .Gt P bt) (S : Addr) (nS : S ∉ fp) (kw : List (Str × Value)) :
    ∀ (k j : Nat) (s : Shared) (u : Value) (c : Nat), n - (j + 1) = k → j + 1 ≤ n → St (j + 1) s.heap → P (argBest bt j) u → s.heap.get? S = some (best0 #[u, u] c) →
      (∀ v h2 tk, P (argBest bt (n - 1)) v → (∀ b o, b ∉ wr → b ≠ S → s.heap.get? b = some o → h2.get? b = some o) → R (.ok (.ret v)) { s with heap := h2, toks := tk }) →
      codeAny (model prog w) A (.builtin "max.loop" ⟨[.ref I, .none, .ref S], kw⟩) R s := by
  have nW : S ∉ wr := fun z => nS (Wk.sub _ z)
  intro k
  induction k with
  | zero =>
    intro j s u c hk hj st hu hS fin
    have e : j + 1 = n := by omega
    refine codeAny_builtin F.entry_max_loop ?_; rw [Around.under_plainId F.plain_max_loop _]
    refine wpAny_bind (wpAny_seqItems hS rfl (wpAny_bind (wpAny_tryCatch (Wk.done s _ _ (e ▸ st) fun h2 tk kp => ?_))))
    have S2 := kp S _ nW hS
    refine wpAny_bind (wpAny_updateSeq S2 rfl (wpAny_bind (wpAny_letGo (wpAny_pure ?_))))
    exact fin u _ tk (by rw [← e]; exact hu) fun b o nb nbS z => (Heap.get?_update_other _ _ (Ne.symm nbS)).trans (kp b o nb z)
  | succ k ih =>
    intro j s u c hk hj st hu hS fin
    have lt : j + 1 < n := by omega
    refine codeAny_builtin F.entry_max_loop ?_; rw [Around.under_plainId F.plain_max_loop _]
    refine wpAny_bind (wpAny_seqItems hS rfl (wpAny_bind (wpAny_tryCatch (Wk.item (j + 1) s _ _ lt st fun v h2 tk hP st2 kp => ?_))))
    have S2 := kp S _ nW hS
    show wpAny _ A.in1 (tryCatch (holding [v, v] (richCompare .Gt v u >>= _)) _ >>= _) _ _ _
    refine wpAny_bind (wpAny_tryCatch (wpAny_holding (wpAny_bind (cmp (j + 1) (argBest bt j) v u _ _ _ hP hu ?_))))
    refine wpAny_bind (wpAny_holding (wpAny_truthy_bool (wpAny_bind (wpAny_letGo (wpAny_pure ?_)))))
    cases hb : bt (j + 1) (argBest bt j) with
    | true =>
      simp only [if_true]
      refine wpAny_bind (wpAny_updateSeq S2 rfl (wpAny_bind (wpAny_letGo ?_))); rw [name_loop]
      refine wpAny_pure ⟨plainId_quiet F.plain_max_loop _, ih (j + 1) _ v _ (by omega) lt (Wk.frame _ _ _ st2 fun b hbf o z => ?_) (by simp only [argBest, hb, if_true]; exact hP) (Heap.get?_update_self _ S2 rfl) fun v3 h3 t3 P3 kp3 => ?_⟩
      · exact (Heap.get?_update_other _ _ (fun y : S = b => nS (by rw [y]; exact hbf))).trans z
      · exact fin v3 h3 t3 P3 fun b o nb nbS z => kp3 b o nb nbS ((Heap.get?_update_other _ _ (Ne.symm nbS)).trans (kp b o nb z))
    | false =>
      simp only [Bool.false_eq_true, if_false]
      refine wpAny_bind (wpAny_letGo ?_); rw [name_loop]
      refine wpAny_pure ⟨plainId_quiet F.plain_max_loop _, ih (j + 1) _ u c (by omega) lt st2 (by simp only [argBest, hb, Bool.false_eq_true, if_false]; exact hu) S2 fun v3 h3 t3 P3 kp3 => ?_⟩
      exact fin v3 h3 t3 P3 fun b o nb nbS z => kp3 b o nb nbS (kp b o nb z)
theorem firstT (Wk : Walks prog w A.in1 I fp wr n P St) (bt : Nat → Nat → Bool) (cmp : CmpOf prog w A.in1 .Gt P bt) (S : Addr) (nS : S ∉ fp) (nm : Str) (d : Value) {s : Shared} {c : Nat} (st : St 0 s.heap) (hS : s.heap.get? S = some (best0 #[] c))
    (fin : ∀ v h2 tk, (n = 0 → v = d) → (0 < n → P (argBest bt (n - 1)) v) → (∀ b o, b ∉ wr → b ≠ S → s.heap.get? b = some o → h2.get? b = some o) → R (.ok (.ret v)) { s with heap := h2, toks := tk }) :
    codeAny (model prog w) A (.builtin "max.loop" ⟨[.ref I, .none, .ref S], [(nm, d)]⟩) R s := by
  have nW : S ∉ wr := fun z => nS (Wk.sub _ z)
  refine codeAny_builtin F.entry_max_loop ?_; rw [Around.under_plainId F.plain_max_loop _]
  refine wpAny_bind (wpAny_seqItems hS rfl (wpAny_bind (wpAny_tryCatch ?_)))
  by_cases hn : n = 0
  · refine Wk.done s _ _ (hn ▸ st) fun h2 tk kp => ?_
    refine wpAny_bind (wpAny_rule (wpAny_pure ?_))
    exact fin d h2 tk (fun _ => rfl) (fun z => absurd hn (by omega)) fun b o nb _ z => kp b o nb z
  · refine Wk.item 0 s _ _ (by omega) st fun v h2 tk hP st2 kp => ?_
    have S2 := kp S _ nW hS
    show wpAny _ A.in1 (updateSeq S (fun _ => #[v, v]) >>= _) _ _ _
    refine wpAny_bind ?_; refine wpAny_updateSeq S2 rfl ?_; rw [name_loop]
    refine wpAny_pure ⟨plainId_quiet F.plain_max_loop _, turns Wk bt cmp S nS _ _ 0 _ v _ rfl (by omega) (Wk.frame _ _ _ st2 fun b hbf o z => ?_) hP (Heap.get?_update_self _ S2 rfl) fun v3 h3 t3 P3 kp3 => ?_⟩
    · exact (Heap.get?_update_other _ _ (fun y : S = b => nS (by rw [y]; exact hbf))).trans z
    · exact fin v3 h3 t3 (fun z => absurd z hn) (fun _ => P3) fun b o nb nbS z => kp3 b o nb nbS ((Heap.get?_update_other _ _ (Ne.symm nbS)).trans (kp b o nb z))
end
section
variable {prog : Program} {w : World} {A : Around} {E : Value → Shared → Prop} {s : Shared}
theorem args_kw (a d : Value) : argsOk "max" ⟨[a], [("default", d)]⟩ := by unfold argsOk; kernel_rfl
theorem tree_kw {id : String} {b : Builtin} {args : List Value} {kw : List (Str × Value)} {Q : Value → Shared → Prop} (hk : builtinKind id = none) (hp : plainId id = true) (hb : entryFor table id = some b) (ha : argsOk id ⟨args, kw⟩)
    (hc : wpAny (model prog w) A.in1 (b ⟨args, kw⟩) (fun f s2 => match f with
      | .done g => (match (Except.ok g : Result) with | .ok (.ret v) => Q v s2 | .ok _ => False | .error e => E e s2)
      | .again c2 => c2.quiet = true ∧ codeAny (model prog w) A c2 (fun r s2 => match r with | .ok (.ret v) => Q v s2 | .ok _ => False | .error e => E e s2) s2) E s) : wpAny (model prog w) A (call (.builtin id) args kw) Q E s := by
  refine wpAny_call (codeAny_call_builtin hp hb ?_); simp only [checkBuiltinCall, hk]
  cases sg : Manifest.signature? id with
  | none => exact wpAny_pure hc
  | some q =>
    simp only [argsOk, sg] at ha
    have ok : Bind.checkArgs id q ⟨args, kw⟩ = pure () := ha
    show wpAny _ A.in1 (Bind.checkArgs id q ⟨args, kw⟩) _ _ s
    rw [ok]
    exact wpAny_pure hc
theorem max_dflt {l : Addr} {xs : Array (Int × Tok)} {d : Value} {Q : Value → Shared → Prop} (hh : A.handled = none) (hl : s.heap.IsList l (intItems xs))
    (fin : ∀ v h2 tk, (xs.size = 0 → v = d) → (0 < xs.size → (intItems xs)[argBest (fun i j => decide (numAt xs i > numAt xs j)) (xs.size - 1)]? = some v) → (∀ b o, s.heap.get? b = some o → h2.get? b = some o) → Q v { s with heap := h2, toks := tk }) :
    wpAny (model prog w) A (call (.builtin "max") [.ref l] [("default", d)]) Q E s := by
  refine tree_kw F.kind_max F.plain_max F.entry_max (args_kw _ _) ?_
  show wpAny _ A.in1 (Builtin.Builtins.bindParams "max" ["key", "default"] 0 ⟨[], [("default", d)]⟩ >>= _) _ _ s
  refine wpAny_bind (wpAny_of_eq (show Builtin.Builtins.bindParams "max" ["key", "default"] 0 ⟨[], [("default", d)]⟩ = pure [none, some d] from rfl) ?_)
  refine wpAny_bind (wpAny_pure (wpAny_bind (iter_intList hl fun s2 e st inb ne => ?_)))
  refine wpAny_bind (wpAny_newObj_type ?_)
  have nS : s2.heap.objs.size ∉ [s.heap.objs.size, l] := fun z => Nat.lt_irrefl _ (inb _ z)
  rw [name_loop]
  have Wk := Walks.list (prog := prog) (w := w) (A := A.in1) hh s.heap.objs.size l ne (intItems xs)
  refine wpAny_pure ⟨plainId_quiet F.plain_max_loop _, firstT Wk (fun i j => decide (numAt xs i > numAt xs j)) (CmpOf.ints_gt (numAt xs) (fun _ _ => intItems_at)) s2.heap.objs.size nS "default" d (Wk.frame _ _ _ st fun b _ o z => Heap.get?_push_of_some _ z) (Heap.get?_push_size _ rfl) fun v h2 tk v0 v1 kp => ?_⟩
  have sz : (intItems xs).size = xs.size := by simp [intItems]
  rw [sz] at v0 v1
  subst e
  refine fin v h2 tk v0 v1 fun b o z => ?_
  have lb := Heap.lt_size z
  refine kp b o (fun y => ?_) (fun y => ?_) (Heap.get?_push_of_some _ (Heap.get?_push_of_some _ z))
  · rw [List.mem_singleton.mp y] at lb; exact Nat.lt_irrefl _ lb
  · rw [y] at lb
    have : (s.heap.push { cls := .type "list_iterator", data := .fields #[.ref l, .int 0 0] }).objs.size = s.heap.objs.size + 1 := Heap.size_push ..
    have lb' : (s.heap.push { cls := .type "list_iterator", data := .fields #[.ref l, .int 0 0] }).objs.size < s.heap.objs.size := lb
    rw [this] at lb'
    exact absurd lb' (Nat.not_lt.mpr (Nat.le_succ _))
end
/-- max(xs, default=d): the greatest, or d -/
def rMaxD (K : PySem.W.Frag) : List V → List V → Hp → VK → Prop := fun vs zs H Q => ∃ (a : Addr) (ns : List Int) (d : V), vs = [V.ref a] ∧ zs = [d] ∧ SqL K H a (ns.map V.int) ∧ (ns = [] → Q d H) ∧ ∀ m ∈ ns, (∀ k ∈ ns, k ≤ m) → Q (.int m) H
theorem cr_maxD {X : Cx} (hc : X.calm = true) : CallRK X (.builtin "max") ["default"] (rMaxD X.K) := by
  intro pins s σ H vs zs us ws Q I r rz h
  obtain ⟨p, ns, d, rfl, rfl, hs, q0, q1⟩ := h
  obtain ⟨its, rv, hl, _⟩ := I.list hs
  rw [Vals.ref1 r]
  cases rz with
  | @cons _ dv _ _ rd rn =>
    cases rn
    have hi := rv.ints
    obtain ⟨xs, e⟩ := hi.allInts.items
    have hn : numsOf (intItems xs).toList = ns := by rw [← e]; exact hi.numsOf
    rw [nums_intItems] at hn
    subst hn
    have hl2 := hl.isList
    rw [e] at hl2
    show wpAny _ _ (call (.builtin "max") [.ref p] [("default", dv)]) _ _ _
    refine max_dflt (I.ok.hd hc) hl2 fun v h2 tk v0 v1 kp => ?_
    by_cases z : xs.size = 0
    · rw [v0 z]
      have z2 : xs.toList = [] := List.length_eq_zero_iff.mp (by rw [Array.length_toList]; exact z)
      exact ⟨d, H, I.kept kp, rd, q0 (by rw [z2]; rfl)⟩
    · obtain ⟨t, rfl⟩ := intItems_at (v1 (by omega))
      obtain ⟨_, b2⟩ := argBest_gt (numAt xs) (xs.size - 1)
      refine ⟨.int _, H, I.kept kp, ⟨_, rfl⟩, q1 _ ?_ fun k hk => ?_⟩
      · rw [numAt_eq]; exact PySem.getD_mem (by rw [List.length_map, Array.length_toList]; omega)
      · obtain ⟨j, hj, rfl⟩ := mem_getD hk
        rw [List.length_map, Array.length_toList] at hj
        rw [← numAt_eq]; exact b2 j (by omega)
end MxD

namespace NlC
open PySem PySem.Spec PyProof.Rows L2
/-! a list of anything beside the empty list -/
section
variable {X : Cx}
def rNeNil (K : PySem.W.Frag) : R2 := fun x y H Q => ∃ (a b : Addr) (xs : List V), x = .ref a ∧ y = .ref b ∧ SqL K H a xs ∧ SqL K H b [] ∧ Q (.bl (!xs.isEmpty)) H
theorem op_neNil (hu : X.A.units < cLine) : OpR X (compareOp .NotEq) (rNeNil X.K) := by
  intro pins s σ H x y v u Q I rx ry h
  obtain ⟨a, b, xs, rfl, rfl, ha, hb, q⟩ := h
  cases rx
  cases ry
  obtain ⟨its, rv, l1, _⟩ := I.list ha
  obtain ⟨its2, rv2, l2, _⟩ := I.list hb
  have l1' : s.heap.IsList a its.toArray := by obtain ⟨o, n, ho, hc, _, hd⟩ := l1; exact ⟨o, ho, hc, n, hd⟩
  have l2' : s.heap.IsList b its2.toArray := by obtain ⟨o, n, ho, hc, _, hd⟩ := l2; exact ⟨o, ho, hc, n, hd⟩
  clear l1 l2
  have e2 : its2 = [] := rv2.zero
  subst e2
  cases xs with
  | nil =>
    have e1 : its = [] := rv.zero
    subst e1
    exact SeqAt.RcNeAt.lists l1' l2' rfl hu (e := fun _ => true) (fun j h => absurd h (Nat.not_lt_zero _)) X.prog X.w _ _ ⟨.bl _, H, I, rfl, q⟩
  | cons z zs =>
    cases rv with
    | cons r1 r2 =>
      exact SeqAt.RcNeAt.lists_lengths l1' l2' (by simp) hu X.prog X.w _ _ ⟨.bl _, H, I, rfl, q⟩
end
end NlC

/-! own: zip of a tuple and a list -/
namespace ZpM
open PySem PySem.Spec PyProof.Rows L2
def Izm (K : PySem.W.Frag) (a b : Addr) : It :=
  ⟨fun i H => ∃ (xs ys : List V) (x y : V), SqT K H a xs ∧ SqL K H b ys ∧ xs[i]? = some x ∧ ys[i]? = some y, fun i H v H' => ∃ pr x y, v = .ref pr ∧ H pr = none ∧ H' = upd H pr (.tup [x, y]) ∧ (∀ xs, SqT K H a xs → xs[i]? = some x) ∧ ∀ ys, SqL K H b ys → ys[i]? = some y, fun i H => ∃ xs ys : List V, SqT K H a xs ∧ SqL K H b ys ∧ i ≤ xs.length ∧ i ≤ ys.length ∧ (i = xs.length ∨ i = ys.length)⟩
/-- what a zip of the two keeps -/
def Tn (z TI TO i1 i2 a b : Addr) (i : Nat) (h : Heap) : Prop := IsZip h z TI TO .none ∧ IsTupOf2 h TI (.ref i1) (.ref i2) ∧ (∃ x y, IsTupOf2 h TO x y) ∧ h.IsTupleIter i1 a i ∧ h.IsListIter i2 b i
theorem mem5 {c z TI TO i1 i2 : Addr} (h : c ∈ [z, TI, TO, i1, i2]) : c = z ∨ c = TI ∨ c = TO ∨ c = i1 ∨ c = i2 := by simpa using h
theorem turn_zm {P : Program} {w : World} {K : PySem.W.Frag} {elts : List Expr} {kk : Nat} {tpos : Pos} {a b z TI TO i1 i2 : Addr} (S : ZipSep2 z TI TO i1 i2 [i1, a] [i2, b]) :
    Turn P w K (.Tuple elts kk tpos) (Izm K a b) [z, TI, TO, i1, i2] z (Tn z TI TO i1 i2 a b) where
  mem := List.mem_cons_self
  obj := fun i h tn c hc => by
    obtain ⟨tz, tI, ⟨x, y, tO⟩, ⟨o1, e1, _, d1⟩, ⟨o2, e2, _, d2⟩⟩ := tn
    rcases mem5 hc with q | q | q | q | q <;> rw [q]
    · exact ⟨_, tz, fun v y => nomatch y⟩
    · exact ⟨_, tI, fun v y => nomatch y⟩
    · exact ⟨_, tO, fun v y => nomatch y⟩
    · exact ⟨o1, e1, fun v y => by rw [d1] at y; cases y⟩
    · exact ⟨o2, e2, fun v y => by rw [d2] at y; cases y⟩
  keep := fun i h h' tn kp => by
    obtain ⟨tz, tI, ⟨x, y, tO⟩, t1, t2⟩ := tn
    exact ⟨kp z (by simp) _ tz, kp TI (by simp) _ tI, ⟨x, y, kp TO (by simp) _ tO⟩, t1.at fun o e => kp i1 (by simp) o e, t2.at fun o e => kp i2 (by simp) o e⟩
  item := by
    intro X hP hw hK hc i pins s σ H E I hf tn hg
    subst hP hw hK
    obtain ⟨tz, tI, ⟨x0, y0, tO⟩, t1, t2⟩ := tn
    obtain ⟨xs, ys, x, y, qx, qy, hx, hy⟩ := hg
    obtain ⟨its, rv, p1, _⟩ := I.tuple qx
    obtain ⟨jts, rw2, p2, _⟩ := I.list qy
    obtain ⟨u, hu, ru⟩ := rv.get hx
    obtain ⟨v, hv, rv2⟩ := rw2.get hy
    have l1 : s.heap.IsTuple a its.toArray := p1
    have l2 : s.heap.IsList b jts.toArray := p2.isList
    have na : a ≠ i1 := fun e => by
      obtain ⟨_, g1, c1, _⟩ := l1
      obtain ⟨_, g2, c2, _⟩ := t1
      rw [e, g2] at g1
      cases g1
      rw [c1] at c2
      exact absurd (Value.type.inj c2) (by decide)
    have nb : b ≠ i2 := fun e => by
      obtain ⟨_, _, g1, c1, _⟩ := p2
      obtain ⟨_, g2, c2, _⟩ := t2
      rw [e, g2] at g1
      cases g1
      rw [c1] at c2
      exact absurd (Value.type.inj c2) (by decide)
    have hh : X.A.in1.handled = none := I.ok.hd hc
    have zl : z < s.heap.objs.size := Heap.lt_size tz
    refine wpAny_pyNext_zipD2_item S (Draws.tuple hh i1 a na its.toArray) (Draws.list hh i2 b nb jts.toArray) tz tI tO ⟨t1, l1⟩ ⟨t2, l2⟩ ?_ ?_ fun u' v' h2 tk hu' hv' z2 O2 s1 s2 hT hs kp => ?_
    · have := (List.getElem?_eq_some_iff.mp hu).1
      simpa using this
    · have := (List.getElem?_eq_some_iff.mp hv).1
      simpa using this
    have eu : u' = u := by
      have h : its.toArray[i]? = some u' := hu'
      rw [List.getElem?_toArray, hu] at h
      exact (Option.some.inj h).symm
    have ev : v' = v := by
      have h : jts.toArray[i]? = some v' := hv'
      rw [List.getElem?_toArray, hv] at h
      exact (Option.some.inj h).symm
    subst eu ev
    refine ⟨_, rfl, wpAny_letOwnedTupleGo_zip (s := { s with heap := h2, toks := tk }) z2 fun h3 z3 sb => ?_⟩
    have T3 : h3.get? s.heap.objs.size = some { cls := .type "tuple", data := .seq #[u', v'] } := (sb.2 _ (Nat.ne_of_gt zl)).trans hT
    have made : ObjOk X.prog X.w (upd H s.heap.objs.size (.tup [x, y])) h3 s.heap.objs.size (.tup [x, y]) := ⟨by show 2 ≤ sizeLine; decide, [u', v'], .cons ru (.cons rv2 .nil), ⟨_, T3, rfl, _, rfl⟩⟩
    have I3 : Inv X pins σ (upd H s.heap.objs.size (.tup [x, y])) { s with heap := h3, toks := tk } :=
      I.turnedNew (ch := [z, TI, TO, i1, i2]) (fun c o nc e => (sb.2 c (fun y => nc (by simp [y]))).trans (kp c o (fun y => nc (by simp [y])) (fun y => nc (by simp [y])) (fun y => nc (by simp [y])) (fun y => nc (by simp [y])) e)) hf (Nat.le_refl _) made
    refine ⟨.ref s.heap.objs.size, _, I3, rfl, ⟨_, x, y, rfl, I.hok.fresh (Nat.le_refl _), rfl, fun l hl => by rw [I.tuple_inj hl qx]; exact hx, fun l hl => by rw [I.list_inj hl qy]; exact hy⟩, ⟨z3, ?_, ⟨_, _, (sb.2 _ S.TOz).trans O2⟩, s1.1.at fun o e => (sb.2 _ S.zi1.symm).trans e, s2.1.at fun o e => (sb.2 _ S.zi2.symm).trans e⟩, fun c hc => ?_⟩
    · exact (sb.2 _ S.TIz).trans (kp _ _ S.TIz S.TITO S.TIi1 S.TIi2 tI)
    · have lc : c < s.heap.objs.size := by
        rcases mem5 hc with q | q | q | q | q <;> rw [q]
        · exact zl
        · exact Heap.lt_size tI
        · exact Heap.lt_size tO
        · obtain ⟨_, e1, _⟩ := t1; exact Heap.lt_size e1
        · obtain ⟨_, e2, _⟩ := t2; exact Heap.lt_size e2
      rw [upd_ne (Nat.ne_of_lt lc)]
      exact (hf c hc).1
  done := by
    intro X hP hw hK hc i pins s σ H E I hf tn hg
    subst hP hw hK
    obtain ⟨tz, tI, ⟨x0, y0, tO⟩, t1, t2⟩ := tn
    obtain ⟨xs, ys, qx, qy, le1, le2, hend⟩ := hg
    obtain ⟨its, rv, p1, _⟩ := I.tuple qx
    obtain ⟨jts, rw2, p2, _⟩ := I.list qy
    have l1 : s.heap.IsTuple a its.toArray := p1
    have l2 : s.heap.IsList b jts.toArray := p2.isList
    have na : a ≠ i1 := fun e => by
      obtain ⟨_, g1, c1, _⟩ := l1
      obtain ⟨_, g2, c2, _⟩ := t1
      rw [e, g2] at g1
      cases g1
      rw [c1] at c2
      exact absurd (Value.type.inj c2) (by decide)
    have nb : b ≠ i2 := fun e => by
      obtain ⟨_, _, g1, c1, _⟩ := p2
      obtain ⟨_, g2, c2, _⟩ := t2
      rw [e, g2] at g1
      cases g1
      rw [c1] at c2
      exact absurd (Value.type.inj c2) (by decide)
    have hh : X.A.in1.handled = none := I.ok.hd hc
    have n1 : its.toArray.size = xs.length := by have := rv.length; simp; omega
    have n2 : jts.toArray.size = ys.length := by have := rw2.length; simp; omega
    exact wpAny_pyNext_zipD2_end S (Draws.tuple hh i1 a na its.toArray) (Draws.list hh i2 b nb jts.toArray) tz tI tO ⟨t1, l1⟩ ⟨t2, l2⟩ (by omega) (by omega) (by omega) fun h2 tk kp => ⟨rfl, I.turnedL (ch := [z, TI, TO, i1, i2]) (fun c o nc e =>
      kp c o (fun y => nc (by simp [y])) (fun y => nc (by simp [y])) (fun y => nc (by simp [y])) (fun y => nc (by simp [y])) e) hf⟩
  self := fun A i s Q E tn q => wpAny_pyIter_zip tn.1 q
def iZm (K : PySem.W.Frag) (ta : TA) : TI := fun σ H R => ta σ H fun vs H1 => ∃ a b xs ys, vs = [.ref a, .ref b] ∧ SqT K H1 a xs ∧ SqL K H1 b ys ∧ R (Izm K a b) H1
theorem pi_zm {X : Cx} {e e2 : Expr} {ta : TA} {p pos tpos : Pos} {elts : List Expr} {kk : Nat} (hg : Gl X "zip") (hm : X.mg "zip" = none) (ha : PA X [e, e2] ta)
    (hs : starEach [e, e2] X.env = (false, eval e X.env) :: starEach [e2] X.env := by rfl) (hpl : (backTo pos (starEach [e2] X.env)).any (·.1) = false := by rfl) : PI X (.Tuple elts kk tpos) (.Call (.Name "zip" p) [e, e2] [] pos) (iZm X.K ta) := by
  constructor
  intro pins s σ H R I h
  refine Call_ (ld_blt I hg hm PyProof.Rows.boot_zip (PyProof.Rows.callWith_type1 (thn (ha.run pos pins s σ H _ I h) fun us s1 ⟨vs, H1, I1, r1, q1⟩ => ?_) hs hpl))
  obtain ⟨a, b, xs, ys, ev, qx, qy, fin⟩ := q1
  subst ev
  cases r1 with
  | cons ra rr =>
    cases rr with
    | cons rb rr =>
      cases rr
      cases ra
      cases rb
      obtain ⟨its, rv, p1, _⟩ := I1.tuple qx
      obtain ⟨jts, rw2, p2, _⟩ := I1.list qy
      have l1 : s1.heap.IsTuple a its.toArray := p1
      have l2 : s1.heap.IsList b jts.toArray := p2.isList
      have la : a < s1.heap.objs.size := by obtain ⟨_, e1, _⟩ := id l1; exact Heap.lt_size e1
      have lb : b < s1.heap.objs.size := p2.lt
      refine zip_begins2 (begins_tuple a its.toArray) (begins_list b jts.toArray) l1 l2 fun h2 z2 T2 O2 g1 g2 sz2 kp => wpAny_pyIter_zip z2 ?_
      refine ⟨s1.heap.objs.size + 4, [s1.heap.objs.size + 4, s1.heap.objs.size + 2, s1.heap.objs.size + 3, s1.heap.objs.size, s1.heap.objs.size + 1], Tn (s1.heap.objs.size + 4) (s1.heap.objs.size + 2) (s1.heap.objs.size + 3) s1.heap.objs.size (s1.heap.objs.size + 1) a b, _, H1, rfl, I1.kept (t' := s1.toks) kp, turn_zm ?_, ⟨z2, T2, ⟨_, _, O2⟩, ⟨_, g1, rfl, rfl⟩, ⟨_, g2, rfl, rfl⟩⟩, fun c hc => ?_, fin⟩
      · generalize s1.heap.objs.size = n at *
        constructor
        all_goals first
          | exact List.mem_cons_self
          | (intro q; rcases List.mem_cons.mp q with q | q <;> (try rw [List.mem_singleton] at q) <;> (have la' : (a : Nat) < n := la; have lb' : (b : Nat) < n := lb; unfold Addr at *; omega))
          | (intro q; unfold Addr at *; omega)
      · have lc : s1.heap.objs.size ≤ c := by
          rcases mem5 hc with q | q | q | q | q <;> rw [q]
          · exact Nat.le_add_right _ _
          · exact Nat.le_add_right _ _
          · exact Nat.le_add_right _ _
          · exact Nat.le_refl _
          · exact Nat.le_add_right _ _
        exact I1.fpOk lc (I1.hok.fresh lc)
end ZpM

set_option Elab.async false
set_option linter.all false
set_option maxRecDepth 100000
set_option maxHeartbeats 4000000
namespace Gait
open PySem PySem.Spec PyProof.Rows L2
section
variable {X : Cx}
/-- // by any divisor but 0 -/
def CDivA (_ j : Int) : Prop := j ≠ 0 ∧ j.natAbs.log2 < 9000
theorem op_fdivA : OpR X (binaryOp .FloorDiv) (rI CDivA fun i j => .int (i.fdiv j)) := opI fun _ _ _ _ _ _ _ hc w => floordiv_int hc.1 w (.inl (PyProof.noPylong_of_log2 hc.2))
end
/-- what stood stands, but for what stands at r -/
def Kp (r : Addr) (H H' : Hp) : Prop := (∀ b o, b ≠ r → H b = some o → H' b = some o) ∧ ∀ c l, H r = some (.lst (.ref c :: l)) → ∃ l', H' r = some (.lst (.ref c :: l'))
theorem Kp.refl {r : Addr} {H : Hp} : Kp r H H := ⟨fun _ _ _ h => h, fun _ l h => ⟨l, h⟩⟩
theorem Kp.trans {r : Addr} {H H1 H2 : Hp} (a : Kp r H H1) (b : Kp r H1 H2) : Kp r H H2 := ⟨fun c o n h => b.1 c o n (a.1 c o n h), fun c l h => by
  obtain ⟨l1, h1⟩ := a.2 c l h
  exact b.2 c l1 h1⟩
theorem Kp.of {r : Addr} {H H' : Hp} (s : Same H H') : Kp r H H' := ⟨fun b o _ h => s b o h, fun _ l h => ⟨l, s _ _ h⟩⟩
theorem Kp.at {r c : Addr} {H : Hp} {l l' : List V} (e : H r = some (.lst (.ref c :: l))) : Kp r H (upd H r (.lst (.ref c :: l'))) := ⟨fun b u n h => by rw [upd_ne n]; exact h, fun d m h => by
  rw [e] at h
  cases h
  exact ⟨l', upd_same⟩⟩
theorem Kp.rd {r x : Addr} {H H' : Hp} {u : HO} (k : Kp r H H') (n : x ≠ r) (h : Rd H x u) : Rd H' x u := by
  rcases h with h | ⟨o, h⟩
  · exact .inl (k.1 _ _ n h)
  · exact .inr ⟨o, k.1 _ _ n h⟩
theorem Kp.L {K : PySem.W.Frag} {r x : Addr} {H H' : Hp} {xs : List V} (k : Kp r H H') (n : x ≠ r) (h : SqL K H x xs) : SqL K H' x xs := by
  rcases h with h | h
  · exact .inl (k.rd n h)
  · exact .inr h
theorem Kp.T {K : PySem.W.Frag} {r x : Addr} {H H' : Hp} {xs : List V} (k : Kp r H H') (n : x ≠ r) (h : SqT K H x xs) : SqT K H' x xs := by
  rcases h with h | h
  · exact .inl (k.rd n h)
  · exact .inr h
theorem Same.T {K : PySem.W.Frag} {x : Addr} {H H' : Hp} {xs : List V} (k : Same H H') (h : SqT K H x xs) : SqT K H' x xs := by
  rcases h with (h | ⟨o, h⟩) | h
  · exact .inl (.inl (k _ _ h))
  · exact .inl (.inr ⟨o, k _ _ h⟩)
  · exact .inr h
theorem Same.new {H : Hp} {p : Addr} {o : HO} (h : H p = none) : Same H (upd H p o) := fun b x e => by
  rw [upd_ne (ne_of_none e h)]
  exact e
theorem some_ne_none {H : Hp} {p q : Addr} {o : HO} (h : H p = some o) (n : H q = none) : p ≠ q := ne_of_none h n
/-- the law's source of numbers at r -/
structure RgS (H : Hp) (r c : Addr) (ns : List Int) (i x k : Int) : Prop where
  hr : H r = some (.lst [.ref c, .int i, .int x, .int k])
  hc : H c = some (.lst (ns.map V.int))
  i0 : 0 ≤ i
  i1 : i ≤ (ns.length : Int)
  x0 : 0 ≤ x
  k0 : 0 ≤ k
  k1 : k < 2147483563
theorem RgS.ne {H : Hp} {r c : Addr} {ns : List Int} {i x k : Int} (R : RgS H r c ns i x k) : c ≠ r := by
  refine ne_of R.hc R.hr fun z => ?_
  cases ns with
  | nil => cases z
  | cons m l => cases z
theorem RgS.set {H : Hp} {r c : Addr} {ns : List Int} {i x k i' x' k' : Int} (R : RgS H r c ns i x k) (i0 : 0 ≤ i') (i1 : i' ≤ (ns.length : Int)) (x0 : 0 ≤ x') (k0 : 0 ≤ k') (k1 : k' < 2147483563) : RgS (upd H r (.lst [.ref c, .int i', .int x', .int k'])) r c ns i' x' k' :=
  ⟨upd_same, by rw [upd_ne R.ne]; exact R.hc, i0, i1, x0, k0, k1⟩
def Rg (H : Hp) (r : Addr) : Prop := ∃ c ns i x k, RgS H r c ns i x k
theorem Rg.same {H H' : Hp} {r : Addr} (R : Rg H r) (s : Same H H') : Rg H' r := by
  obtain ⟨c, ns, i, x, k, R⟩ := R
  exact ⟨c, ns, i, x, k, s _ _ R.hr, s _ _ R.hc, R.i0, R.i1, R.x0, R.k0, R.k1⟩
theorem Rg.some {H : Hp} {r : Addr} (R : Rg H r) : ∃ o, H r = some o := by
  obtain ⟨c, ns, i, x, k, R⟩ := R
  exact ⟨_, R.hr⟩
theorem Rg.ne {H : Hp} {r p : Addr} (R : Rg H r) (h : H p = none) : p ≠ r := by
  obtain ⟨o, e⟩ := R.some
  exact (ne_of_none e h).symm
/-- what is new at H2 may be written later -/
theorem Rg.put {H2 H5 : Hp} {r D : Addr} {o : HO} (R2 : Rg H2 r) (nD : H2 D = none) (k : Kp r H2 H5) (R5 : Rg H5 r) : Rg (upd H5 D o) r := by
  have Dr : D ≠ r := R2.ne nD
  obtain ⟨c2, n2, i2, x2, k2, R2⟩ := R2
  obtain ⟨c, ns, i, x, kk, R⟩ := R5
  obtain ⟨l', e⟩ := k.2 _ _ R2.hr
  rw [R.hr] at e
  cases e
  exact ⟨c2, ns, i, x, kk, by rw [upd_ne Dr.symm]; exact R.hr, by rw [upd_ne (ne_of_none R2.hc nD)]; exact R.hc, R.i0, R.i1, R.x0, R.k0, R.k1⟩
theorem Kp.put {H H2 H5 : Hp} {r D : Addr} {o : HO} (nD : H2 D = none) (Dr : D ≠ r) (k : Kp r H2 H5) : Kp r H2 (upd H5 D o) := ⟨fun b u nb e => by
  rw [upd_ne (ne_of_none e nD)]
  exact k.1 _ _ nb e, fun c l e => by
  obtain ⟨l', e'⟩ := k.2 c l e
  exact ⟨l', by rw [upd_ne Dr.symm]; exact e'⟩⟩
theorem sz {n : Nat} (h : n ≤ 100000) : n ≤ sizeLine := Nat.le_trans h (by decide)
theorem szl {n : Nat} (h : n < 100000) : n < sizeLine := Nat.lt_of_lt_of_le h (by decide)
theorem gcd_step {a b : Int} (h0 : 0 ≤ a) (hb : 0 ≤ b) : Int.gcd b (a % b) = Int.gcd a b := by
  rw [Int.gcd_eq_natAbs_gcd_natAbs, Int.gcd_eq_natAbs_gcd_natAbs, Int.natAbs_emod_of_nonneg h0, Nat.gcd_comm a.natAbs b.natAbs, Nat.gcd_rec b.natAbs a.natAbs, Nat.gcd_comm]
/-- a fraction in lowest terms -/
def red (n d : Int) : Int × Int := ((if d > 0 then 1 else -1) * n / (Int.gcd n d : Int), (if d > 0 then 1 else -1) * d / (Int.gcd n d : Int))
theorem gcd_posI {n d : Int} (hd : d ≠ 0) : (0 : Int) < (Int.gcd n d : Int) := by
  have : 0 < Int.gcd n d := Int.gcd_pos_of_ne_zero_right n hd
  omega
theorem sgn_cases (d : Int) : ((if d > 0 then (1 : Int) else -1) = 1 ∧ d > 0) ∨ ((if d > 0 then (1 : Int) else -1) = -1 ∧ ¬ d > 0) := by
  by_cases h : d > 0
  · exact .inl ⟨if_pos h, h⟩
  · exact .inr ⟨if_neg h, h⟩
theorem red_parts {n d : Int} (hd : d ≠ 0) : ∃ s g a b : Int, (s = 1 ∨ s = -1) ∧ 0 < g ∧ g = (Int.gcd n d : Int) ∧ s * n = g * a ∧ s * d = g * b ∧ 0 < b ∧ red n d = (a, b) ∧ Int.gcd a b = 1 := by
  have g0 := gcd_posI (n := n) hd
  obtain ⟨u, hu⟩ := Int.gcd_dvd_left n d
  obtain ⟨v, hv⟩ := Int.gcd_dvd_right n d
  have hg : Int.gcd u v = 1 := by
    have h1 : Int.gcd n d = (Int.gcd n d) * Int.gcd u v := by
      have e := Int.gcd_mul_left (Int.gcd n d : Int) u v
      rw [← hu, ← hv] at e
      simpa using e
    have h2 : 0 < Int.gcd n d := by omega
    have h3 : Int.gcd n d * 1 = Int.gcd n d * Int.gcd u v := by omega
    exact (Nat.eq_of_mul_eq_mul_left h2 h3).symm
  generalize hG : (Int.gcd n d : Int) = g at *
  have key : ∀ s : Int, (s = 1 ∨ s = -1) → Int.gcd (s * u) (s * v) = 1 := by
    intro s hs
    rcases hs with rfl | rfl
    · simpa using hg
    · simpa using hg
  have div : ∀ s w x : Int, x = g * w → s * x / g = s * w := by
    intro s w x e
    rw [e, show s * (g * w) = g * (s * w) by rw [← Int.mul_assoc, Int.mul_comm s g, Int.mul_assoc]]
    exact Int.mul_ediv_cancel_left _ (by omega)
  rcases sgn_cases d with ⟨e, h⟩ | ⟨e, h⟩
  · refine ⟨1, g, 1 * u, 1 * v, .inl rfl, g0, rfl, ?_, ?_, ?_, ?_, key 1 (.inl rfl)⟩
    · rw [hu]; simp
    · rw [hv]; simp
    · have : 0 < g * v := by omega
      have := Int.pos_of_mul_pos_right this (by omega)
      omega
    · unfold red
      rw [e, hG, div 1 u n hu, div 1 v d hv]
  · refine ⟨-1, g, -1 * u, -1 * v, .inr rfl, g0, rfl, ?_, ?_, ?_, ?_, key (-1) (.inr rfl)⟩
    · rw [hu]; simp [Int.mul_neg]
    · rw [hv]; simp [Int.mul_neg]
    · have h4 : 0 < g * (-v) := by
        rw [Int.mul_neg]
        omega
      have := Int.pos_of_mul_pos_right h4 (by omega)
      omega
    · unfold red
      rw [e, hG, div (-1) u n hu, div (-1) v d hv]
theorem red_pos {n d : Int} (hd : d ≠ 0) : 0 < (red n d).2 := by
  obtain ⟨s, g, a, b, _, _, _, _, _, hb, e, _⟩ := red_parts (n := n) hd
  rw [e]; exact hb
theorem red_gcd {n d : Int} (hd : d ≠ 0) : Int.gcd (red n d).1 (red n d).2 = 1 := by
  obtain ⟨s, g, a, b, _, _, _, _, _, hb, e, hg⟩ := red_parts (n := n) hd
  rw [e]; exact hg
theorem red_eq {n d : Int} (hd : d ≠ 0) : (red n d).1 * d = n * (red n d).2 := by
  obtain ⟨s, g, a, b, hs, g0, _, h1, h2, hb, e, hg⟩ := red_parts (n := n) hd
  rw [e]
  show a * d = n * b
  have hs2 : s ≠ 0 := by omega
  apply Int.eq_of_mul_eq_mul_left (a := s * g) (by
    intro z
    rcases Int.mul_eq_zero.mp z with z | z <;> omega)
  calc s * g * (a * d) = (g * a) * (s * d) := by simp only [Int.mul_assoc, Int.mul_comm, Int.mul_left_comm]
    _ = (s * n) * (g * b) := by rw [h1, h2]
    _ = s * g * (n * b) := by simp only [Int.mul_assoc, Int.mul_comm, Int.mul_left_comm]
theorem natAbs_sgn {s n : Int} (hs : s = 1 ∨ s = -1) : (s * n).natAbs = n.natAbs := by
  rcases hs with rfl | rfl
  · simp
  · simp
theorem red_le1 {n d : Int} (hd : d ≠ 0) : (red n d).1.natAbs ≤ n.natAbs := by
  obtain ⟨s, g, a, b, hs, g0, _, h1, h2, hb, e, hg⟩ := red_parts (n := n) hd
  rw [e, ← natAbs_sgn (n := n) hs, h1, Int.natAbs_mul]
  exact Nat.le_mul_of_pos_left _ (by omega)
theorem red_le2 {n d : Int} (hd : d ≠ 0) : (red n d).2.natAbs ≤ d.natAbs := by
  obtain ⟨s, g, a, b, hs, g0, _, h1, h2, hb, e, hg⟩ := red_parts (n := n) hd
  rw [e, ← natAbs_sgn (n := d) hs, h2, Int.natAbs_mul]
  exact Nat.le_mul_of_pos_left _ (by omega)
theorem dvd_cop {x y z : Int} (h : x ∣ y * z) (g : Int.gcd x z = 1) : x ∣ y := by
  rw [← Int.natAbs_dvd_natAbs, Int.natAbs_mul] at h
  rw [← Int.natAbs_dvd_natAbs]
  exact Nat.Coprime.dvd_of_dvd_mul_right g h
theorem low_unique {a b c e : Int} (hb : 0 < b) (he : 0 < e) (g1 : Int.gcd a b = 1) (g2 : Int.gcd c e = 1) (h : a * e = c * b) : a = c ∧ b = e := by
  have d1 : b ∣ e := by
    have : b ∣ e * a := ⟨c, by rw [Int.mul_comm e a, h, Int.mul_comm]⟩
    exact dvd_cop this (by rw [Int.gcd_comm]; exact g1)
  have d2 : e ∣ b := by
    have : e ∣ b * c := ⟨a, by rw [Int.mul_comm b c, ← h, Int.mul_comm]⟩
    exact dvd_cop this (by rw [Int.gcd_comm]; exact g2)
  have hbe : b = e := Int.dvd_antisymm (by omega) (by omega) d1 d2
  subst hbe
  exact ⟨Int.eq_of_mul_eq_mul_right (by omega) h, rfl⟩
theorem red_unique {n d a b : Int} (hd : d ≠ 0) (hb : 0 < b) (g : Int.gcd a b = 1) (h : a * d = n * b) : red n d = (a, b) := by
  have h1 := red_eq (n := n) hd
  have h2 : (red n d).1 * b = a * (red n d).2 := by
    apply Int.eq_of_mul_eq_mul_right hd
    calc (red n d).1 * b * d = ((red n d).1 * d) * b := by simp only [Int.mul_assoc, Int.mul_comm, Int.mul_left_comm]
      _ = (n * b) * (red n d).2 := by rw [h1]; simp only [Int.mul_assoc, Int.mul_comm, Int.mul_left_comm]
      _ = a * (red n d).2 * d := by rw [← h]; simp only [Int.mul_assoc, Int.mul_comm, Int.mul_left_comm]
  obtain ⟨e1, e2⟩ := low_unique (red_pos (n := n) hd) hb (red_gcd hd) g h2
  exact Prod.ext e1 e2
theorem red_self {n d : Int} (hd : 0 < d) (g : Int.gcd n d = 1) : red n d = (n, d) := red_unique (by omega) hd g rfl

/-- the fraction n / d, as a tuple -/
def Fr (K : PySem.W.Frag) (H : Hp) (v : V) (n d : Int) : Prop := ∃ p, v = .ref p ∧ SqT K H p [.int n, .int d]
theorem RgT {K : PySem.W.Frag} {H H' : Hp} {r p : Addr} {xs : List V} (R : Rg H r) (k : Kp r H H') (h : SqT K H p xs) : SqT K H' p xs := by
  obtain ⟨c, ns, i, x, kk, R⟩ := R
  rcases h with (h | ⟨o, h⟩) | h
  · exact .inl (.inl (k.1 _ _ (ne_of h R.hr (fun z => by cases z)) h))
  · exact .inl (.inr ⟨o, k.1 _ _ (ne_of h R.hr (fun z => by cases z)) h⟩)
  · exact .inr h
theorem Fr.kp {K : PySem.W.Frag} {H H' : Hp} {r : Addr} {v : V} {n d : Int} (f : Fr K H v n d) (R : Rg H r) (k : Kp r H H') : Fr K H' v n d := by
  obtain ⟨p, e, h⟩ := f
  exact ⟨p, e, RgT R k h⟩
theorem Fr.same {K : PySem.W.Frag} {H H' : Hp} {v : V} {n d : Int} (f : Fr K H v n d) (k : Same H H') : Fr K H' v n d := by
  obtain ⟨p, e, h⟩ := f
  exact ⟨p, e, Same.T k h⟩
theorem Fr.new {K : PySem.W.Frag} {H : Hp} {p : Addr} {n d : Int} : Fr K (upd H p (.tup [.int n, .int d])) (.ref p) n d := ⟨p, rfl, SqT.of upd_same⟩
/-- a fraction of the law's own: lowest terms, its size -/
structure FrB (K : PySem.W.Frag) (H : Hp) (v : V) (n d : Int) (B : Nat) : Prop where
  fr : Fr K H v n d
  d0 : 0 < d
  g : Int.gcd n d = 1
  nB : n.natAbs < 2 ^ B
  dB : d.natAbs < 2 ^ B
theorem FrB.kp {K : PySem.W.Frag} {H H' : Hp} {r : Addr} {v : V} {n d : Int} {B : Nat} (f : FrB K H v n d B) (R : Rg H r) (k : Kp r H H') : FrB K H' v n d B := ⟨f.fr.kp R k, f.d0, f.g, f.nB, f.dB⟩
theorem FrB.same {K : PySem.W.Frag} {H H' : Hp} {v : V} {n d : Int} {B : Nat} (f : FrB K H v n d B) (k : Same H H') : FrB K H' v n d B := ⟨f.fr.same k, f.d0, f.g, f.nB, f.dB⟩
theorem red_B {K : PySem.W.Frag} {H : Hp} {p : Addr} {n d : Int} {B : Nat} (hd : d ≠ 0) (h1 : n.natAbs < 2 ^ B) (h2 : d.natAbs < 2 ^ B) : FrB K (upd H p (.tup [.int (red n d).1, .int (red n d).2])) (.ref p) (red n d).1 (red n d).2 B :=
  ⟨Fr.new, red_pos hd, red_gcd hd, Nat.lt_of_le_of_lt (red_le1 hd) h1, Nat.lt_of_le_of_lt (red_le2 hd) h2⟩
theorem log2_lt {j : Int} {b : Nat} (hb : j.natAbs < 2 ^ b) (h0 : 0 < b) (h9 : b ≤ 9000) : j.natAbs.log2 < 9000 := Nat.lt_of_lt_of_le (PySem.Flt.log2_lt_of h0 hb) h9
/-! ### equal data -/
def atom : V → Bool
  | .non => true | .bl _ => true | .int _ => true | .str _ => true | _ => false
def Eqd (K : PySem.W.Frag) (H : Hp) : Nat → V → V → Prop
  | 0, x, y => x = y ∧ atom x = true
  | n + 1, x, y => (x = y ∧ atom x = true) ∨ ∃ a b xs ys, x = .ref a ∧ y = .ref b ∧ ((SqL K H a xs ∧ SqL K H b ys) ∨ (SqT K H a xs ∧ SqT K H b ys)) ∧ xs.length = ys.length ∧ xs.length ≤ 100000 ∧ ∀ (i : Nat) u v, xs[i]? = some u → ys[i]? = some v → Eqd K H n u v
theorem Eqd.same {K : PySem.W.Frag} {H H' : Hp} (s : Same H H') : ∀ {n : Nat} {x y : V}, Eqd K H n x y → Eqd K H' n x y
  | 0, _, _, h => h
  | n + 1, _, _, .inl h => .inl h
  | n + 1, _, _, .inr ⟨a, b, xs, ys, e1, e2, h, l, l2, k⟩ => .inr ⟨a, b, xs, ys, e1, e2, h.elim (fun z => .inl ⟨s.seq z.1, s.seq z.2⟩) (fun z => .inr ⟨Same.T s z.1, Same.T s z.2⟩), l, l2, fun i u v hu hv => Eqd.same s (k i u v hu hv)⟩
theorem Eqd.up {K : PySem.W.Frag} {H : Hp} : ∀ {n : Nat} {x y : V}, Eqd K H n x y → Eqd K H (n + 1) x y
  | 0, _, _, h => .inl h
  | n + 1, _, _, .inl h => .inl h
  | n + 1, _, _, .inr ⟨a, b, xs, ys, e1, e2, h, l, l2, k⟩ => .inr ⟨a, b, xs, ys, e1, e2, h, l, l2, fun i u v hu hv => Eqd.up (k i u v hu hv)⟩
theorem Eqd.mono {K : PySem.W.Frag} {H : Hp} {n m : Nat} {x y : V} (h : Eqd K H n x y) (l : n ≤ m) : Eqd K H m x y := by
  induction l with
  | refl => exact h
  | step _ ih => exact ih.up
theorem Eqd.atom {K : PySem.W.Frag} {H : Hp} {n : Nat} {x : V} (h : atom x = true) : Eqd K H n x x := by
  cases n with
  | zero => exact ⟨rfl, h⟩
  | succ n => exact .inl ⟨rfl, h⟩
theorem all2_nil {R : V → V → Prop} : ∀ (i : Nat) u v, ([] : List V)[i]? = some u → ([] : List V)[i]? = some v → R u v := fun i u v h => by cases h
theorem all2_cons {R : V → V → Prop} {x y : V} {xs ys : List V} (h : R x y) (k : ∀ (i : Nat) u v, xs[i]? = some u → ys[i]? = some v → R u v) : ∀ (i : Nat) u v, (x :: xs)[i]? = some u → (y :: ys)[i]? = some v → R u v
  | 0, u, v, h1, h2 => by cases h1; cases h2; exact h
  | i + 1, u, v, h1, h2 => k i u v h1 h2
theorem Eqd.lst {K : PySem.W.Frag} {H : Hp} {n : Nat} {a b : Addr} {xs ys : List V} (h1 : SqL K H a xs) (h2 : SqL K H b ys) (l : xs.length = ys.length) (l2 : xs.length ≤ 100000) (k : ∀ (i : Nat) u v, xs[i]? = some u → ys[i]? = some v → Eqd K H n u v) : Eqd K H (n + 1) (.ref a) (.ref b) :=
  .inr ⟨a, b, xs, ys, rfl, rfl, .inl ⟨h1, h2⟩, l, l2, k⟩
theorem Eqd.tup {K : PySem.W.Frag} {H : Hp} {n : Nat} {a b : Addr} {xs ys : List V} (h1 : SqT K H a xs) (h2 : SqT K H b ys) (l : xs.length = ys.length) (l2 : xs.length ≤ 100000) (k : ∀ (i : Nat) u v, xs[i]? = some u → ys[i]? = some v → Eqd K H n u v) : Eqd K H (n + 1) (.ref a) (.ref b) :=
  .inr ⟨a, b, xs, ys, rfl, rfl, .inr ⟨h1, h2⟩, l, l2, k⟩
theorem tyL {K : PySem.W.Frag} {H : Hp} {a : Addr} {xs : List V} (h : SqL K H a xs) : TyX K H (.ref a) (.type "list") := by
  rcases h with (h | ⟨o, h⟩) | ⟨o, its, n, h, c, _⟩
  · exact .base (.lst h)
  · exact .base (.frz h)
  · exact .kList h c
theorem tyT {K : PySem.W.Frag} {H : Hp} {a : Addr} {xs : List V} (h : SqT K H a xs) : TyX K H (.ref a) (.type "tuple") := by
  rcases h with (h | ⟨o, h⟩) | ⟨o, its, n, h, c, _⟩
  · exact .base (.tup h)
  · exact .fTuple h
  · exact .kTuple h c
theorem rd_isi {K : PySem.W.Frag} {H : Hp} {x : V} {t c : String} {b : Bool} {Q : VK} (ty : TyX K H x (.type t)) (h : kitB t c = some b) (w : Q (.bl b) H) : rIsi K [x, .ty c] H Q := ⟨x, .ty c, .type t, .type c, b, rfl, .ty c, ty, kit_ty h, w⟩
theorem ifF {c : Bool} {A B : Prop} (hc : c = false) (h : B) : if c = true then A else B := by rw [hc, if_neg Bool.false_ne_true]; exact h
theorem ifT {c : Bool} {A B : Prop} (hc : c = true) (h : A) : if c = true then A else B := by rw [if_pos hc]; exact h
theorem fn_false {P : Program} {w : World} {K : PySem.W.Frag} {mg : Str → Option Value} {base : Heap} {CX : CXT} {k : Nat} {f : Addr} {fd : FuncData} {ps : List Str} : FnOk P w K mg base CX k f fd ps (fun _ _ _ _ => False) :=
  ⟨fun _ _ _ _ h => h.elim, fun _ _ _ _ _ _ _ _ _ _ _ _ _ h => h.elim⟩
theorem tYes_if {σ : L2.St} {H : Hp} {A B : Hp → Prop} (h : A H) : tYes σ H fun b H3 => if b = true then A H3 else B H3 := by
  show (if true = true then A H else B H)
  rw [if_pos rfl]
  exact h
/-! ### f(k = v, ..), nothing by position -/
def tCallN0 (m : Nat) (sp : Sp) (gV : List V → List V → List V) (E : XK) (tk : TA) : TE := fun σ H Q => tk σ H fun zs H2 => zs.length = m ∧ sp (gV [] zs) H2 Q E
theorem pe_callN0 {X : Cx} {CX : CXT} {k : Nat} {f : Addr} {fd : FuncData} {ps ks : List Str} {sp : Sp} {E : XK} {x : Str} {p pos : Pos} {kws : List Keyword} {tk : TA} {g : List Value → List Value → List Value} {gV : List V → List V → List V}
    (F : FnOk X.prog X.w X.K X.mg X.base CX k f fd ps sp) (hr : Room k X.A) (hg : Gl X x) (hm : X.mg x = some (.ref f)) (hk : PySem.W.keepIn X.K (.ref f) = true) (hb : KBn X.K fd ps 0 ks g gV) (hx : Passes CX X E)
    (hkw : PK X kws tk) (hall : (backToKw pos (keywordEach kws X.env)).all (·.1.isSome) = true := by rfl) (hks : (backToKw pos (keywordEach kws X.env)).filterMap (·.1) = ks := by rfl)
    (hdb : (x == ("__debug__" : Str)) = false := by decide) (hpl : ((backTo pos (starEach [] X.env)).any (·.1) || (backToKw pos (keywordEach kws X.env)).any (·.1.isNone)) = false := by rfl) :
    PE X (.Call (.Name x p) [] kws pos) (tCallN0 ks.length sp gV E tk) := by
  refine ⟨fun pins s σ H Q I h => ?_⟩
  refine wpAny_Call_Name_kw (ld_glob I hg hm ?_ hdb)
  refine PySem.W.callWith_KW0 (h₀ := X.base) I.ok.mod.kin hk hall (thn (hkw.run pos pins s σ H _ I h) fun ws s2 ⟨zs, H2, I2, rz, l2, q2⟩ => ⟨I2.kIn, ?_⟩) hpl
  rw [hks]
  exact run_fnN (us := []) (vs := []) F hr hb hx I2 .nil rz rfl l2 q2
theorem FunD.ok0 {P : Program} {w : World} {K : PySem.W.Frag} {mg : Str → Option Value} {base : Heap} {x qual : Str} {params : Arguments} {body : List Stmt} {scope : Scope} {dvs : List V} {kws : List (Str × V)} {f : Addr} {fd : FuncData} {N ps : List Str} {k : Nat} {sp : Sp}
    (F : FunD K x qual params body scope dvs kws f fd) (S : FnScope N ps scope) (len : ∀ vs H Q E, sp vs H Q E → vs.length = ps.length)
    (hbody : ∀ (cdv : Value) (A : Around) (outer : List Env) (s : Shared) (H : Hp) (vs : List V) (Q : VK) (E : XK), Room k (A.deeper (envOfC qual scope s.heap.objs.size f cdv)) → sp vs H Q E →
      ∃ t, PSs (cxOf CX0 P w K mg base N qual scope f cdv A outer s H E).nox body t ∧ t { nx := fun _ H' => Q .non H', rt := Q } (start N vs) H) : FnOk P w K mg base CX0 (k + 1) f fd ps sp :=
  F.ok S len fun cdv A outer s H vs Q E hr h => by
    obtain ⟨t, a, b⟩ := hbody cdv A outer s H vs Q E hr h
    exact ⟨t, a.nox, b⟩
theorem u65 {k : Nat} {A : Around} (r : Room k A) : A.units + 65 < cLine := by have := r.un; omega
theorem u2 {k : Nat} {A : Around} (r : Room k A) : A.units + 1 < cLine := by have := r.un; omega
theorem ixT {X : Cx} {K : PySem.W.Frag} (h : X.K = K) : IxR X (rIxT K) := by subst h; exact ix_tup
theorem ixL {X : Cx} {K : PySem.W.Frag} (h : X.K = K) : IxR X (rIxL K) := by subst h; exact ix_list
theorem ixS {X : Cx} {K : PySem.W.Frag} (h : X.K = K) : IxR X (rIx K) := by subst h; exact ix_seq
theorem crSumK {X : Cx} {K : PySem.W.Frag} (hc : X.calm = true) (h : X.K = K) : CallR X (.builtin "sum") (rSum K) := by subst h; exact cr_sum hc
theorem callLenK {X : Cx} {K : PySem.W.Frag} (h : X.K = K) : CallR X (.builtin "len") (fun xs H Q => ∃ x n, xs = [x] ∧ LenV K x H n ∧ Q (.int n) H) := by subst h; exact call_len
theorem go_name {i : Nat} {v : V} {σ : L2.St} {H : Hp} {Q : L2.St → Hp → Prop} (h : Q (σ.set i (some v)) H) : gName i v σ H Q := h
theorem go_next {D : Ends} {σ : L2.St} {H : Hp} (h : D.nx σ H) : tNext D σ H := h
theorem go_seq {t u : TS} {D : Ends} {σ : L2.St} {H : Hp} (h : t { D with nx := u D } σ H) : tSeq t u D σ H := h
theorem go_asg {te : TE} {g : TG} {D : Ends} {σ : L2.St} {H : Hp} (h : te σ H fun x H1 => g x σ H1 D.nx) : tAsg te g D σ H := h
theorem both {te : TE} {σ : L2.St} {H : Hp} {Q : VK} (F : V → Hp → Prop) (main : ∀ v H', F v H' → Q v H') (step : ∀ Q' : VK, (∀ v H', F v H' → Q' v H') → te σ H Q') : te σ H Q := step Q main
theorem piLK {X : Cx} {K : PySem.W.Frag} {tg e : Expr} {t : TE} (h : X.K = K) (he : PE X e t) : PI X tg e (iList K t) := by subst h; exact pi_list he
theorem piTK {X : Cx} {K : PySem.W.Frag} {tg e : Expr} {t : TE} (h : X.K = K) (he : PE X e t) : PI X tg e (iTup K t) := by subst h; exact pi_tup he

/-! ### names -/
def kws4 : List V := [.str "max", .str "min", .str "median", .str "mix"]
def lowB (c : Nat) : Bool := decide (97 ≤ c) && decide (c ≤ 122)
def nameB (z : Str) : Bool := (decide (1 ≤ z.length) && decide (z.length ≤ 6)) && (z.cps.toList.all lowB && !inV (.str z) kws4)
theorem one_lt {c d : Nat} : ([c] < [d]) ↔ c < d := by simp [List.cons_lt_cons_iff]
theorem str_a : (("a" : Str)).cps.toList = [97] := by decide +kernel
theorem str_z : (("z" : Str)).cps.toList = [122] := by decide +kernel
theorem le_a {c : Nat} : (!decide ((⟨#[c]⟩ : Str).cps.toList < ("a" : Str).cps.toList)) = decide (97 ≤ c) := by
  rw [str_a]
  show (!decide ([c] < [97])) = _
  by_cases h : c < 97
  · rw [decide_eq_true (one_lt.mpr h), decide_eq_false (by omega)]; rfl
  · rw [decide_eq_false (fun z => h (one_lt.mp z)), decide_eq_true (by omega)]; rfl
theorem le_z {c : Nat} : (!decide (("z" : Str).cps.toList < (⟨#[c]⟩ : Str).cps.toList)) = decide (c ≤ 122) := by
  rw [str_z]
  show (!decide ([122] < [c])) = _
  by_cases h : 122 < c
  · rw [decide_eq_true (one_lt.mpr h), decide_eq_false (by omega)]; rfl
  · rw [decide_eq_false (fun z => h (one_lt.mp z)), decide_eq_true (by omega)]; rfl
theorem abc_mem {c : Nat} : decide (c ∈ (("abcdefghijklmnopqrstuvwxyz" : Str)).cps.toList) = lowB c := by
  have e : (("abcdefghijklmnopqrstuvwxyz" : Str)).cps.toList = (List.range 26).map (· + 97) := by decide +kernel
  rw [e]
  unfold lowB
  by_cases h : 97 ≤ c ∧ c ≤ 122
  · rw [decide_eq_true h.1, decide_eq_true h.2]
    exact decide_eq_true (List.mem_map.mpr ⟨c - 97, by rw [List.mem_range]; omega, by omega⟩)
  · have z : (decide (97 ≤ c) && decide (c ≤ 122)) = false := by
      cases h1 : decide (97 ≤ c) <;> cases h2 : decide (c ≤ 122)
      · rfl
      · rfl
      · rfl
      · exact absurd ⟨of_decide_eq_true h1, of_decide_eq_true h2⟩ h
    rw [z]
    refine decide_eq_false fun hm => ?_
    obtain ⟨x, hx, e⟩ := List.mem_map.mp hm
    rw [List.mem_range] at hx
    omega
theorem tk_more {α β : Type} {f : α → β} {l : List α} {i : Nat} {c : α} (h : l[i]? = some c) : ((l.take (i + 1)).map f) = (l.take i).map f ++ [f c] := by
  rw [List.take_add_one, h, List.map_append]
  rfl
theorem cps_len (z : Str) : z.cps.toList.length = z.length := by simp [Str.length]
theorem gcd_fmod {a b : Int} : Int.gcd b (a.fmod b) = Int.gcd a b := by
  rw [Int.fmod_def, Int.gcd_sub_mul_left_right, Int.gcd_comm]
theorem fmod_lt {a b : Int} (hb : b ≠ 0) : (a.fmod b).natAbs < b.natAbs := by
  have pos : ∀ x y : Int, 0 < y → (x.fmod y).natAbs < y.natAbs := fun x y h => by
    rw [Int.fmod_eq_emod_of_nonneg x (by omega)]
    have h1 := Int.emod_nonneg x (show y ≠ 0 by omega)
    have h2 := Int.emod_lt_of_pos x h
    omega
  rcases Int.lt_or_lt_of_ne hb with h | h
  · have e := pos (-a) (-b) (by omega)
    rw [Int.neg_fmod_neg] at e
    omega
  · exact pos a b h
theorem frac_red {n d : Int} (hd : d ≠ 0) : (n.fdiv (if d < 0 then -(Int.gcd n d : Int) else (Int.gcd n d : Int)), d.fdiv (if d < 0 then -(Int.gcd n d : Int) else (Int.gcd n d : Int))) = red n d := by
  have g0 := gcd_posI (n := n) hd
  have d1 := Int.gcd_dvd_left n d
  have d2 := Int.gcd_dvd_right n d
  unfold red
  generalize (Int.gcd n d : Int) = g at *
  by_cases h : d < 0
  · rw [if_pos h, if_neg (show ¬ d > 0 by omega), Int.fdiv_eq_ediv_of_dvd (Int.neg_dvd.mpr d1), Int.fdiv_eq_ediv_of_dvd (Int.neg_dvd.mpr d2), Int.ediv_neg, Int.ediv_neg]
    rw [show (-1 : Int) * n = -n by omega, show (-1 : Int) * d = -d by omega, Int.neg_ediv_of_dvd d1, Int.neg_ediv_of_dvd d2]
  · rw [if_neg h, if_pos (show d > 0 by omega), Int.fdiv_eq_ediv_of_dvd d1, Int.fdiv_eq_ediv_of_dvd d2, Int.one_mul, Int.one_mul]
theorem red_congr {n d n' d' : Int} (hd : d ≠ 0) (hd' : d' ≠ 0) (h : n * d' = n' * d) : red n d = red n' d' := by
  refine red_unique hd (red_pos hd') (red_gcd hd') ?_
  have e := red_eq (n := n') hd'
  apply Int.eq_of_mul_eq_mul_right hd'
  calc (red n' d').1 * d * d' = ((red n' d').1 * d') * d := by grind
    _ = n' * d * (red n' d').2 := by rw [e]; grind
    _ = n * (red n' d').2 * d' := by rw [← h]; grind
/-! ### sums -/
abbrev QQ := Int × Int
def Low (a : QQ) : Prop := 0 < a.2 ∧ Int.gcd a.1 a.2 = 1
def radd (a b : QQ) : QQ := red (a.1 * b.2 + b.1 * a.2) (a.2 * b.2)
theorem pos_ne {a b : Int} (ha : 0 < a) (hb : 0 < b) : a * b ≠ 0 := Int.ne_of_gt (Int.mul_pos ha hb)
theorem low_red {n d : Int} (hd : d ≠ 0) : Low (red n d) := ⟨red_pos hd, red_gcd hd⟩
theorem low_add {a b : QQ} (ha : Low a) (hb : Low b) : Low (radd a b) := low_red (pos_ne ha.1 hb.1)
theorem radd_eq {a b : QQ} (ha : Low a) (hb : Low b) : (radd a b).1 * (a.2 * b.2) = (a.1 * b.2 + b.1 * a.2) * (radd a b).2 := red_eq (pos_ne ha.1 hb.1)
theorem radd_assoc {a b c : QQ} (ha : Low a) (hb : Low b) (hc : Low c) : radd (radd a b) c = radd a (radd b c) := by
  have lab := low_add ha hb
  have lbc := low_add hb hc
  have e1 := radd_eq ha hb
  have e2 := radd_eq hb hc
  show red _ _ = red _ _
  refine (red_congr (n' := a.1 * b.2 * c.2 + b.1 * a.2 * c.2 + c.1 * a.2 * b.2) (d' := a.2 * b.2 * c.2) (pos_ne lab.1 hc.1) (Int.ne_of_gt (Int.mul_pos (Int.mul_pos ha.1 hb.1) hc.1)) ?_).trans (red_congr (pos_ne ha.1 lbc.1) (Int.ne_of_gt (Int.mul_pos (Int.mul_pos ha.1 hb.1) hc.1)) ?_).symm
  · generalize radd a b = x at *
    grind
  · generalize radd b c = x at *
    grind
theorem radd_zero {b : QQ} (hb : Low b) : radd b (0, 1) = b := by
  show red (b.1 * 1 + 0 * b.2) (b.2 * 1) = b
  rw [show b.1 * 1 + 0 * b.2 = b.1 by omega, show b.2 * 1 = b.2 by omega]
  exact red_self hb.1 hb.2
theorem zero_radd {b : QQ} (hb : Low b) : radd (0, 1) b = b := by
  show red (0 * b.2 + b.1 * 1) (1 * b.2) = b
  rw [show 0 * b.2 + b.1 * 1 = b.1 by omega, show 1 * b.2 = b.2 by omega]
  exact red_self hb.1 hb.2
theorem low0 : Low (0, 1) := ⟨by decide, by decide⟩
theorem low_sum : ∀ {fs : List QQ} {s : QQ}, Low s → (∀ f ∈ fs, Low f) → Low (fs.foldl radd s)
  | [], _, h, _ => h
  | f :: fs, s, h, k => low_sum (fs := fs) (s := radd s f) (low_add h (k f List.mem_cons_self)) fun g hg => k g (List.mem_cons_of_mem _ hg)
theorem sum_from : ∀ {fs : List QQ} {s : QQ}, Low s → (∀ f ∈ fs, Low f) → fs.foldl radd s = radd s (fs.foldl radd (0, 1))
  | [], s, h, _ => (radd_zero h).symm
  | f :: fs, s, h, k => by
    have hf := k f List.mem_cons_self
    have kk : ∀ g ∈ fs, Low g := fun g hg => k g (List.mem_cons_of_mem _ hg)
    show fs.foldl radd (radd s f) = radd s (fs.foldl radd (radd (0, 1) f))
    rw [sum_from (low_add h hf) kk, zero_radd hf, sum_from hf kk, radd_assoc h hf (low_sum low0 kk)]
theorem add_bd {a b : QQ} {A B : Nat} (ha : 0 < a.2) (hb : 0 < b.2) (a1 : a.1.natAbs < 2 ^ A) (a2 : a.2.natAbs < 2 ^ A) (b1 : b.1.natAbs < 2 ^ B) (b2 : b.2.natAbs < 2 ^ B) : (radd a b).1.natAbs < 2 ^ (A + B + 1) ∧ (radd a b).2.natAbs < 2 ^ (A + B + 1) := by
  have hd : a.2 * b.2 ≠ 0 := pos_ne ha hb
  have m1 : (a.1 * b.2).natAbs < 2 ^ (A + B) := by rw [Int.natAbs_mul, Nat.pow_add]; exact Nat.mul_lt_mul'' a1 b2
  have m2 : (b.1 * a.2).natAbs < 2 ^ (A + B) := by rw [Int.natAbs_mul, Nat.pow_add, Nat.mul_comm]; exact Nat.mul_lt_mul'' a2 b1
  have m3 : (a.2 * b.2).natAbs < 2 ^ (A + B) := by rw [Int.natAbs_mul, Nat.pow_add]; exact Nat.mul_lt_mul'' a2 b2
  have e : (2 : Nat) ^ (A + B + 1) = 2 ^ (A + B) * 2 := Nat.pow_succ ..
  have n1 : (radd a b).1.natAbs ≤ (a.1 * b.2 + b.1 * a.2).natAbs := red_le1 hd
  have n2 : (radd a b).2.natAbs ≤ (a.2 * b.2).natAbs := red_le2 hd
  have n3 := Int.natAbs_add_le (a.1 * b.2) (b.1 * a.2)
  omega
/-! ### extremes -/
def rlt (a b : QQ) : Bool := decide (a.1 * b.2 < b.1 * a.2)
theorem rlt_same {a b : QQ} (ha : Low a) (hb : Low b) (h1 : rlt a b = false) (h2 : rlt b a = false) : a = b := by
  have e1 : ¬ a.1 * b.2 < b.1 * a.2 := of_decide_eq_false h1
  have e2 : ¬ b.1 * a.2 < a.1 * b.2 := of_decide_eq_false h2
  obtain ⟨x, y⟩ := low_unique ha.1 hb.1 ha.2 hb.2 (by omega)
  exact Prod.ext x y
theorem rlt_irr {a : QQ} : rlt a a = false := decide_eq_false (by omega)
theorem rlt_trans' {a b c : QQ} (ha : 0 < a.2) (hb : 0 < b.2) (hc : 0 < c.2) (h1 : rlt a b = true) (h2 : rlt c b = false) : rlt a c = true := by
  have e1 : a.1 * b.2 < b.1 * a.2 := of_decide_eq_true h1
  have e2 : ¬ c.1 * b.2 < b.1 * c.2 := of_decide_eq_false h2
  refine decide_eq_true ?_
  have k1 : a.1 * b.2 * c.2 < b.1 * a.2 * c.2 := Int.mul_lt_mul_of_pos_right e1 hc
  have k2 : b.1 * c.2 * a.2 ≤ c.1 * b.2 * a.2 := Int.mul_le_mul_of_nonneg_right (by omega) (by omega)
  have k3 : a.1 * c.2 * b.2 < c.1 * a.2 * b.2 := by
    have q1 : a.1 * c.2 * b.2 = a.1 * b.2 * c.2 := by grind
    have q2 : c.1 * a.2 * b.2 = c.1 * b.2 * a.2 := by grind
    have q3 : b.1 * a.2 * c.2 = b.1 * c.2 * a.2 := by grind
    omega
  exact Int.lt_of_mul_lt_mul_right k3 (by omega)

def Frs (K : PySem.W.Frag) (H : Hp) (xs : List V) (fs : List QQ) (B : Nat) : Prop := xs.length = fs.length ∧ ∀ (i : Nat) x f, xs[i]? = some x → fs[i]? = some f → FrB K H x f.1 f.2 B
theorem Frs.same {K : PySem.W.Frag} {H H' : Hp} {xs : List V} {fs : List QQ} {B : Nat} (h : Frs K H xs fs B) (s : Same H H') : Frs K H' xs fs B := ⟨h.1, fun i x f a b => (h.2 i x f a b).same s⟩
theorem Frs.kp {K : PySem.W.Frag} {H H' : Hp} {r : Addr} {xs : List V} {fs : List QQ} {B : Nat} (h : Frs K H xs fs B) (R : Rg H r) (k : Kp r H H') : Frs K H' xs fs B := ⟨h.1, fun i x f a b => (h.2 i x f a b).kp R k⟩
theorem Frs.low {K : PySem.W.Frag} {H : Hp} {xs : List V} {fs : List QQ} {B : Nat} (h : Frs K H xs fs B) : ∀ f ∈ fs, Low f := fun f hf => by
  obtain ⟨i, hi, e⟩ := List.getElem_of_mem hf
  have hx : xs[i]? = some (xs[i]'(by rw [h.1]; exact hi)) := List.getElem?_eq_getElem _
  have z := h.2 i _ f hx (by rw [List.getElem?_eq_getElem hi, e])
  exact ⟨z.d0, z.g⟩
theorem Frs.at {K : PySem.W.Frag} {H : Hp} {xs : List V} {fs : List QQ} {B : Nat} (h : Frs K H xs fs B) {i : Nat} {x : V} (hx : xs[i]? = some x) : ∃ f, fs[i]? = some f ∧ FrB K H x f.1 f.2 B := by
  have hi : i < fs.length := by rw [← h.1]; exact (List.getElem?_eq_some_iff.mp hx).1
  exact ⟨fs[i], List.getElem?_eq_getElem hi, h.2 i x _ hx (List.getElem?_eq_getElem hi)⟩
def Sq (K : PySem.W.Frag) (H : Hp) (p : Addr) (xs : List V) : Prop := SqL K H p xs ∨ SqT K H p xs
theorem Sq.same {K : PySem.W.Frag} {H H' : Hp} {p : Addr} {xs : List V} (h : Sq K H p xs) (s : Same H H') : Sq K H' p xs := h.elim (fun z => .inl (s.seq z)) fun z => .inr (Same.T s z)
theorem FrB.up' {K : PySem.W.Frag} {H : Hp} {v : V} {n d : Int} {B C : Nat} (f : FrB K H v n d B) (h : B ≤ C) : FrB K H v n d C := ⟨f.fr, f.d0, f.g, Nat.lt_of_lt_of_le f.nB (Nat.pow_le_pow_right (by decide) h), Nat.lt_of_lt_of_le f.dB (Nat.pow_le_pow_right (by decide) h)⟩
theorem FrB.low {K : PySem.W.Frag} {H : Hp} {v : V} {f : QQ} {B : Nat} (h : FrB K H v f.1 f.2 B) : Low f := ⟨h.d0, h.g⟩
theorem FrB.add {K : PySem.W.Frag} {H : Hp} {v1 v2 : V} {a b : QQ} {A B : Nat} {p : Addr} (ha : FrB K H v1 a.1 a.2 A) (hb : FrB K H v2 b.1 b.2 B) : FrB K (upd H p (.tup [.int (radd a b).1, .int (radd a b).2])) (.ref p) (radd a b).1 (radd a b).2 (A + B + 1) := by
  have l := low_add ha.low hb.low
  have bd := add_bd ha.d0 hb.d0 ha.nB ha.dB hb.nB hb.dB
  exact ⟨Fr.new, l.1, l.2, bd.1, bd.2⟩
theorem mulW {a b : Int} {A : Nat} (ha : a.natAbs < 2 ^ A) (hb : b.natAbs < 2 ^ A) (h0 : 0 < A) (h1 : A ≤ 500000) : CMulW a b := wide_mul ha hb h0 h0 (by omega)
def spAdd (K : PySem.W.Frag) : Sp := fun vs H Q _ => ∃ (v1 v2 : V) (a b : QQ), vs = [v1, v2] ∧ FrB K H v1 a.1 a.2 3000 ∧ FrB K H v2 b.1 b.2 3000 ∧ ∀ p, H p = none → Q (.ref p) (upd H p (.tup [.int (radd a b).1, .int (radd a b).2]))
def spLess (K : PySem.W.Frag) : Sp := fun vs H Q _ => ∃ (v1 v2 : V) (a b : QQ), vs = [v1, v2] ∧ FrB K H v1 a.1 a.2 20000 ∧ FrB K H v2 b.1 b.2 20000 ∧ Q (.bl (rlt a b)) H
/-- the first place of the best by lt -/
def Fst (lt : QQ → QQ → Bool) (fs : List QQ) (j : Nat) : Prop := ∃ f, fs[j]? = some f ∧ (∀ (i : Nat) g, fs[i]? = some g → lt f g = false) ∧ ∀ (i : Nat) g, i < j → fs[i]? = some g → lt g f = true
abbrev FstMax (fs : List QQ) (j : Nat) : Prop := Fst rlt fs j
abbrev FstMin (fs : List QQ) (j : Nat) : Prop := Fst (fun a b => rlt b a) fs j
theorem rlt_asym {a b : QQ} (h : rlt a b = true) : rlt b a = false := by
  have e : a.1 * b.2 < b.1 * a.2 := of_decide_eq_true h
  exact decide_eq_false (by omega)
theorem rlt_le_lt {a b c : QQ} (ha : 0 < a.2) (hb : 0 < b.2) (hc : 0 < c.2) (h1 : rlt b a = false) (h2 : rlt b c = true) : rlt a c = true := by
  have e1 : ¬ b.1 * a.2 < a.1 * b.2 := of_decide_eq_false h1
  have e2 : b.1 * c.2 < c.1 * b.2 := of_decide_eq_true h2
  refine decide_eq_true ?_
  have k1 : b.1 * c.2 * a.2 < c.1 * b.2 * a.2 := Int.mul_lt_mul_of_pos_right e2 ha
  have k2 : a.1 * b.2 * c.2 ≤ b.1 * a.2 * c.2 := Int.mul_le_mul_of_nonneg_right (by omega) (by omega)
  have k3 : a.1 * c.2 * b.2 < c.1 * a.2 * b.2 := by
    have q1 : a.1 * c.2 * b.2 = a.1 * b.2 * c.2 := by grind
    have q2 : c.1 * a.2 * b.2 = c.1 * b.2 * a.2 := by grind
    have q3 : b.1 * a.2 * c.2 = b.1 * c.2 * a.2 := by grind
    omega
  exact Int.lt_of_mul_lt_mul_right k3 (by omega)
structure Ord (lt : QQ → QQ → Bool) : Prop where
  irr : ∀ a, lt a a = false
  lelt : ∀ a b c : QQ, 0 < a.2 → 0 < b.2 → 0 < c.2 → lt b a = false → lt b c = true → lt a c = true
  asym : ∀ a b, lt a b = true → lt b a = false
theorem ordMax : Ord rlt := ⟨fun _ => rlt_irr, fun _ _ _ ha hb hc h1 h2 => rlt_le_lt ha hb hc h1 h2, fun _ _ h => rlt_asym h⟩
theorem ordMin : Ord (fun a b => rlt b a) := ⟨fun _ => rlt_irr, fun _ _ _ ha hb hc h1 h2 => rlt_trans' hc hb ha h2 h1, fun _ _ h => rlt_asym h⟩
/-- between two turns: best so far among the first i -/
def Bst (lt : QQ → QQ → Bool) (fs : List QQ) (i j : Nat) : Prop := ∃ f, fs[j]? = some f ∧ (∀ (m : Nat) g, m < i → fs[m]? = some g → lt f g = false) ∧ ∀ (m : Nat) g, m < j → fs[m]? = some g → lt g f = true
theorem Bst.start {lt : QQ → QQ → Bool} {fs : List QQ} (h : 0 < fs.length) : Bst lt fs 0 0 := ⟨fs[0], List.getElem?_eq_getElem h, fun m g hm => absurd hm (by omega), fun m g hm => absurd hm (by omega)⟩
theorem Bst.keep {lt : QQ → QQ → Bool} {fs : List QQ} {i j : Nat} {f g : QQ} (b : Bst lt fs i j) (hf : fs[j]? = some f) (hg : fs[i]? = some g) (h : lt f g = false) : Bst lt fs (i + 1) j := by
  obtain ⟨f', e, k1, k2⟩ := b
  rw [hf] at e; cases e
  refine ⟨f, hf, fun m x hm hx => ?_, k2⟩
  by_cases z : m = i
  · subst z; rw [hg] at hx; cases hx; exact h
  · exact k1 m x (by omega) hx
theorem Bst.take {lt : QQ → QQ → Bool} {fs : List QQ} {i j : Nat} {f g : QQ} (O : Ord lt) (lo : ∀ f ∈ fs, Low f) (b : Bst lt fs i j) (hf : fs[j]? = some f) (hg : fs[i]? = some g) (h : lt f g = true) : Bst lt fs (i + 1) i := by
  obtain ⟨f', e, k1, k2⟩ := b
  rw [hf] at e; cases e
  have pf := (lo f (List.mem_of_getElem? hf)).1
  have pg := (lo g (List.mem_of_getElem? hg)).1
  have up : ∀ (m : Nat) x, m < i → fs[m]? = some x → lt x g = true := fun m x hm hx => O.lelt x f g (lo x (List.mem_of_getElem? hx)).1 pf pg (k1 m x hm hx) h
  refine ⟨g, hg, fun m x hm hx => ?_, up⟩
  by_cases z : m = i
  · subst z; rw [hg] at hx; cases hx; exact O.irr g
  · exact O.asym _ _ (up m x (by omega) hx)
theorem Bst.fst {lt : QQ → QQ → Bool} {fs : List QQ} {j : Nat} (b : Bst lt fs fs.length j) : Fst lt fs j := by
  obtain ⟨f, e, k1, k2⟩ := b
  exact ⟨f, e, fun m g hg => k1 m g (List.getElem?_eq_some_iff.mp hg).1 hg, k2⟩
theorem Bst.lt {lt : QQ → QQ → Bool} {fs : List QQ} {i j : Nat} (b : Bst lt fs i j) : j < fs.length := by
  obtain ⟨f, e, _⟩ := b
  exact (List.getElem?_eq_some_iff.mp e).1
theorem Frs.nil' {K : PySem.W.Frag} {H : Hp} {B : Nat} : Frs K H [] [] B := ⟨rfl, fun i x f h => by cases h⟩
theorem Frs.cons' {K : PySem.W.Frag} {H : Hp} {B : Nat} {x : V} {f : QQ} {xs : List V} {fs : List QQ} (h : FrB K H x f.1 f.2 B) (t : Frs K H xs fs B) : Frs K H (x :: xs) (f :: fs) B :=
  ⟨by rw [List.length_cons, List.length_cons, t.1], fun i y g a b => by
    cases i with
    | zero => cases a; cases b; exact h
    | succ i => exact t.2 i y g a b⟩
theorem Frs.uncons' {K : PySem.W.Frag} {H : Hp} {B : Nat} {x : V} {f : QQ} {xs : List V} {fs : List QQ} (t : Frs K H (x :: xs) (f :: fs) B) : FrB K H x f.1 f.2 B ∧ Frs K H xs fs B :=
  ⟨t.2 0 x f rfl rfl, by have := t.1; simpa using this, fun i y g a b => t.2 (i + 1) y g a b⟩
theorem Frs.app' {K : PySem.W.Frag} {H : Hp} {B : Nat} : ∀ {xs : List V} {fs : List QQ} {ys : List V} {gs : List QQ}, Frs K H xs fs B → Frs K H ys gs B → Frs K H (xs ++ ys) (fs ++ gs) B
  | [], [], _, _, _, b => b
  | [], _ :: _, _, _, a, _ => by have := a.1; cases this
  | _ :: _, [], _, _, a, _ => by have := a.1; cases this
  | x :: xs, f :: fs, ys, gs, a, b => Frs.cons' a.uncons'.1 (Frs.app' a.uncons'.2 b)
theorem FrB.put' {K : PySem.W.Frag} {H : Hp} {v : V} {n d : Int} {B : Nat} {D : Addr} {l l' : List V} (f : FrB K H v n d B) (hD : H D = some (.lst l)) : FrB K (upd H D (.lst l')) v n d B := by
  refine ⟨?_, f.d0, f.g, f.nB, f.dB⟩
  obtain ⟨p, rfl, h⟩ := f.fr
  refine ⟨p, rfl, ?_⟩
  rcases h with (h | ⟨o, h⟩) | h
  · exact .inl (.inl (by rw [upd_ne (ne_of h hD (fun z => by cases z))]; exact h))
  · exact .inl (.inr ⟨o, by rw [upd_ne (ne_of h hD (fun z => by cases z))]; exact h⟩)
  · exact .inr h
theorem Frs.put' {K : PySem.W.Frag} {H : Hp} {B : Nat} {D : Addr} {l l' : List V} {xs : List V} {fs : List QQ} (f : Frs K H xs fs B) (hD : H D = some (.lst l)) : Frs K (upd H D (.lst l')) xs fs B := ⟨f.1, fun i x g a b => (f.2 i x g a b).put' hD⟩
theorem Frs.one' {K : PySem.W.Frag} {H : Hp} {B : Nat} {x : V} {f : QQ} (h : FrB K H x f.1 f.2 B) : Frs K H [x] [f] B := Frs.cons' h Frs.nil'
def spSub (K : PySem.W.Frag) : Sp := fun vs H Q _ => ∃ (v1 v2 : V) (x y : QQ), vs = [v1, v2] ∧ FrB K H v1 x.1 x.2 3000 ∧ FrB K H v2 y.1 y.2 3000 ∧ ∀ r, H r = none → Q (.ref r) (upd H r (.tup [.int (red (x.1 * y.2 - y.1 * x.2) (x.2 * y.2)).1, .int (red (x.1 * y.2 - y.1 * x.2) (x.2 * y.2)).2]))
def spMul (K : PySem.W.Frag) : Sp := fun vs H Q _ => ∃ (v1 v2 : V) (x y : QQ), vs = [v1, v2] ∧ FrB K H v1 x.1 x.2 3000 ∧ FrB K H v2 y.1 y.2 3000 ∧ ∀ r, H r = none → Q (.ref r) (upd H r (.tup [.int (red (x.1 * y.1) (x.2 * y.2)).1, .int (red (x.1 * y.1) (x.2 * y.2)).2]))
def spDiv (K : PySem.W.Frag) : Sp := fun vs H Q _ => ∃ (v1 v2 : V) (x y : QQ), vs = [v1, v2] ∧ FrB K H v1 x.1 x.2 3000 ∧ FrB K H v2 y.1 y.2 3000 ∧ y.1 ≠ 0 ∧ ∀ r, H r = none → Q (.ref r) (upd H r (.tup [.int (red (x.1 * y.2) (x.2 * y.1)).1, .int (red (x.1 * y.2) (x.2 * y.1)).2]))
theorem ne_mul {i j : Int} (h : 0 < i) (k : j ≠ 0) : i * j ≠ 0 := fun z => by
  rcases Int.mul_eq_zero.mp z with z | z
  · omega
  · exact k z
/-! ### terms -/
inductive Kd where
  | delay (f : QQ) | max | min | median | mix (ws : List QQ)
inductive Tm where
  | ev (n : Str) : Tm
  | nd (k : Kd) (ts : List Tm) : Tm
def Tm.subs : Tm → List Tm
  | .ev _ => []
  | .nd _ ts => ts
mutual
def Tm.size : Tm → Nat
  | .ev _ => 1
  | .nd _ ts => 1 + Tm.sizes ts
def Tm.sizes : List Tm → Nat
  | [] => 0
  | t :: ts => t.size + Tm.sizes ts
end
mutual
def Tm.depth : Tm → Nat
  | .ev _ => 1
  | .nd _ ts => 1 + Tm.depths ts
def Tm.depths : List Tm → Nat
  | [] => 0
  | t :: ts => Nat.max t.depth (Tm.depths ts)
end
mutual
def Tm.flat : Tm → List Str
  | .ev s => [s]
  | .nd _ ts => Tm.flats ts
def Tm.flats : List Tm → List Str
  | [] => []
  | t :: ts => t.flat ++ Tm.flats ts
end
theorem Tm.size_eq (t : Tm) : t.size = 1 + Tm.sizes t.subs := by cases t <;> simp [Tm.size, Tm.subs, Tm.sizes]
theorem Tm.sizes_eq : ∀ ts : List Tm, Tm.sizes ts = (ts.map Tm.size).sum
  | [] => by simp [Tm.sizes]
  | t :: ts => by rw [Tm.sizes, Tm.sizes_eq ts, List.map_cons, List.sum_cons]
def All2 (R : V → Tm → Prop) (xs : List V) (ts : List Tm) : Prop := xs.length = ts.length ∧ ∀ (i : Nat) x t, xs[i]? = some x → ts[i]? = some t → R x t
theorem All2.mono {R S : V → Tm → Prop} {xs : List V} {ts : List Tm} (h : All2 R xs ts) (k : ∀ x t, R x t → S x t) : All2 S xs ts := ⟨h.1, fun i x t a b => k x t (h.2 i x t a b)⟩
theorem All2.nil {R : V → Tm → Prop} : All2 R [] [] := ⟨rfl, fun i x t h => by cases h⟩
theorem All2.snoc {R : V → Tm → Prop} {xs : List V} {ts : List Tm} {x : V} {t : Tm} (h : All2 R xs ts) (k : R x t) : All2 R (xs ++ [x]) (ts ++ [t]) := by
  refine ⟨by rw [List.length_append, List.length_append, h.1]; rfl, fun i y u a b => ?_⟩
  by_cases hi : i < xs.length
  · rw [List.getElem?_append_left hi] at a
    rw [List.getElem?_append_left (by rw [← h.1]; exact hi)] at b
    exact h.2 i y u a b
  · have e : i = xs.length := by
      have := (List.getElem?_eq_some_iff.mp a).1
      rw [List.length_append] at this
      have : i < xs.length + 1 := this
      omega
    subst e
    rw [List.getElem?_append_right (Nat.le_refl _), Nat.sub_self] at a
    rw [h.1, List.getElem?_append_right (Nat.le_refl _), Nat.sub_self] at b
    cases a; cases b
    exact k
theorem All2.one {R : V → Tm → Prop} {x : V} {t : Tm} (k : R x t) : All2 R [x] [t] := All2.nil.snoc k
theorem All2.at {R : V → Tm → Prop} {xs : List V} {ts : List Tm} (h : All2 R xs ts) {i : Nat} {x : V} (hx : xs[i]? = some x) : ∃ t, ts[i]? = some t ∧ R x t := by
  have l : i < ts.length := by rw [← h.1]; exact (List.getElem?_eq_some_iff.mp hx).1
  exact ⟨ts[i], List.getElem?_eq_getElem l, h.2 i x _ hx (List.getElem?_eq_getElem l)⟩
def kdS : Kd → Str
  | .delay _ => "delay" | .max => "max" | .min => "min" | .median => "median" | .mix _ => "mix"
/-- a tuple that stands for a term of the kind k over the values xs -/
def Node (K : PySem.W.Frag) (H : Hp) (v : V) : Kd → List V → Prop
  | .delay f, xs => ∃ p x fv, xs = [x] ∧ v = .ref p ∧ SqT K H p [.str "delay", x, fv] ∧ FrB K H fv f.1 f.2 40
  | .max, xs => ∃ p, v = .ref p ∧ SqT K H p (.str "max" :: xs)
  | .min, xs => ∃ p, v = .ref p ∧ SqT K H p (.str "min" :: xs)
  | .median, xs => ∃ p, v = .ref p ∧ SqT K H p (.str "median" :: xs)
  | .mix ws, xs => ∃ p ys, v = .ref p ∧ SqT K H p (.str "mix" :: ys) ∧ ys.length = xs.length ∧ ws.length = xs.length ∧ ∀ (i : Nat) y x f, ys[i]? = some y → xs[i]? = some x → ws[i]? = some f → ∃ q wv, y = .ref q ∧ SqT K H q [wv, x] ∧ FrB K H wv f.1 f.2 40
def TmAt (K : PySem.W.Frag) (H : Hp) : Nat → V → Tm → Prop
  | 0, _, _ => False
  | _ + 1, v, .ev s => ∃ p, v = .ref p ∧ SqT K H p [.str "event", .str s]
  | n + 1, v, .nd k ts => ∃ xs, Node K H v k xs ∧ All2 (TmAt K H n) xs ts
section
variable {K : PySem.W.Frag} {H H' : Hp}
theorem Node.imp (sT : ∀ p xs, SqT K H p xs → SqT K H' p xs) {v : V} {k : Kd} {xs : List V} (h : Node K H v k xs) : Node K H' v k xs := by
  have fb : ∀ {v n d B}, FrB K H v n d B → FrB K H' v n d B := fun f => ⟨by obtain ⟨p, e, z⟩ := f.fr; exact ⟨p, e, sT _ _ z⟩, f.d0, f.g, f.nB, f.dB⟩
  cases k with
  | delay f => obtain ⟨p, x, fv, e1, e2, h1, h2⟩ := h; exact ⟨p, x, fv, e1, e2, sT _ _ h1, fb h2⟩
  | max => obtain ⟨p, e, h1⟩ := h; exact ⟨p, e, sT _ _ h1⟩
  | min => obtain ⟨p, e, h1⟩ := h; exact ⟨p, e, sT _ _ h1⟩
  | median => obtain ⟨p, e, h1⟩ := h; exact ⟨p, e, sT _ _ h1⟩
  | mix ws =>
    obtain ⟨p, ys, e, h1, l1, l2, h2⟩ := h
    refine ⟨p, ys, e, sT _ _ h1, l1, l2, fun i y x f a b c => ?_⟩
    obtain ⟨q, wv, e', h3, h4⟩ := h2 i y x f a b c
    exact ⟨q, wv, e', sT _ _ h3, fb h4⟩
theorem TmAt.imp (sT : ∀ p xs, SqT K H p xs → SqT K H' p xs) : ∀ {n : Nat} {v : V} {t : Tm}, TmAt K H n v t → TmAt K H' n v t
  | 0, _, _, h => h
  | n + 1, v, .ev s, h => by obtain ⟨p, e, z⟩ := h; exact ⟨p, e, sT _ _ z⟩
  | n + 1, v, .nd k ts, h => by
    obtain ⟨xs, h1, h2⟩ := h
    exact ⟨xs, h1.imp sT, h2.mono fun x t z => TmAt.imp sT z⟩
theorem TmAt.same (s : Same H H') {n : Nat} {v : V} {t : Tm} (h : TmAt K H n v t) : TmAt K H' n v t := h.imp fun _ _ z => Same.T s z
theorem TmAt.kp {r : Addr} (R : Rg H r) (k : Kp r H H') {n : Nat} {v : V} {t : Tm} (h : TmAt K H n v t) : TmAt K H' n v t := h.imp fun _ _ z => RgT R k z
theorem TmAt.put {D : Addr} {l l' : List V} (hD : H D = some (.lst l)) {n : Nat} {v : V} {t : Tm} (h : TmAt K H n v t) : TmAt K (upd H D (.lst l')) n v t := h.imp fun p xs z => by
  rcases z with (z | ⟨o, z⟩) | z
  · exact .inl (.inl (by rw [upd_ne (ne_of z hD (fun y => by cases y))]; exact z))
  · exact .inl (.inr ⟨o, by rw [upd_ne (ne_of z hD (fun y => by cases y))]; exact z⟩)
  · exact .inr z
theorem TmAt.up : ∀ {n : Nat} {v : V} {t : Tm}, TmAt K H n v t → TmAt K H (n + 1) v t
  | 0, _, _, h => h.elim
  | n + 1, v, .ev s, h => h
  | n + 1, v, .nd k ts, h => by
    obtain ⟨xs, h1, h2⟩ := h
    exact ⟨xs, h1, h2.mono fun x t z => TmAt.up z⟩
theorem TmAt.le {n m : Nat} (l : n ≤ m) {v : V} {t : Tm} (h : TmAt K H n v t) : TmAt K H m v t := by
  induction l with
  | refl => exact h
  | step _ ih => exact ih.up
end
/-- what the law's terms have: names of the list, few operands, shares -/
def ShW (ws : List QQ) : Prop := ∃ is : List Int, (∀ i ∈ is, 1 ≤ i ∧ i ≤ 4) ∧ is.length ≤ 6 ∧ ws = is.map fun i => red i is.sum
def KdOk : Kd → Nat → Prop
  | .delay _, m => m = 1
  | .max, m => 1 ≤ m ∧ m ≤ 3
  | .min, m => 1 ≤ m ∧ m ≤ 3
  | .median, m => m = 3
  | .mix ws, m => 1 ≤ m ∧ m ≤ 3 ∧ ws.length = m ∧ ShW ws
def Good (ss : List Str) : Nat → Tm → Prop
  | 0, _ => False
  | _ + 1, .ev s => s ∈ ss
  | n + 1, .nd k ts => KdOk k ts.length ∧ ∀ t ∈ ts, Good ss n t
def szB : Nat → Nat
  | 0 => 0
  | n + 1 => 1 + 3 * szB n
theorem Good.up {ss : List Str} : ∀ {n : Nat} {t : Tm}, Good ss n t → Good ss (n + 1) t
  | 0, _, h => h.elim
  | n + 1, .ev s, h => h
  | n + 1, .nd k ts, h => ⟨h.1, fun t ht => (h.2 t ht).up⟩
theorem Good.le {ss : List Str} {n m : Nat} (l : n ≤ m) {t : Tm} (h : Good ss n t) : Good ss m t := by
  induction l with
  | refl => exact h
  | step _ ih => exact ih.up
theorem KdOk.three {k : Kd} {m : Nat} (h : KdOk k m) : m ≤ 3 := by
  cases k with
  | delay f => have : m = 1 := h; omega
  | max => exact h.2
  | min => exact h.2
  | median => exact Nat.le_of_eq h
  | mix ws => exact h.2.1
theorem sizes_le {B : Nat} : ∀ {ts : List Tm}, (∀ t ∈ ts, t.size ≤ B) → Tm.sizes ts ≤ ts.length * B
  | [], _ => by simp [Tm.sizes]
  | t :: ts, h => by
    rw [Tm.sizes, List.length_cons, Nat.add_mul, Nat.one_mul]
    have h1 := h t List.mem_cons_self
    have h2 := sizes_le (B := B) (ts := ts) fun u hu => h u (List.mem_cons_of_mem _ hu)
    omega
theorem Good.size {ss : List Str} : ∀ {n : Nat} {t : Tm}, Good ss n t → t.size ≤ szB n
  | 0, _, h => h.elim
  | n + 1, .ev s, _ => by simp [Tm.size, szB]
  | n + 1, .nd k ts, h => by
    have h1 := sizes_le (B := szB n) fun t ht => (h.2 t ht).size
    have h2 := Nat.mul_le_mul_right (szB n) h.1.three
    rw [Tm.size, szB]
    omega
theorem Tm.depth_eq (t : Tm) : t.depth = 1 + Tm.depths t.subs := by cases t <;> simp [Tm.depth, Tm.subs, Tm.depths]
theorem depths_ge : ∀ {ts : List Tm} {u : Tm}, u ∈ ts → u.depth ≤ Tm.depths ts
  | t :: ts, u, h => by
    rw [Tm.depths]
    rcases List.mem_cons.mp h with z | z
    · rw [z]; exact Nat.le_max_left _ _
    · exact Nat.le_trans (depths_ge z) (Nat.le_max_right _ _)
theorem depths_in : ∀ {ts : List Tm}, ts ≠ [] → ∃ u ∈ ts, Tm.depths ts = u.depth
  | [], h => absurd rfl h
  | t :: ts, _ => by
    rw [Tm.depths]
    by_cases q : ts = []
    · subst q
      exact ⟨t, List.mem_cons_self, by rw [Tm.depths]; exact Nat.max_eq_left (Nat.zero_le _)⟩
    · obtain ⟨u, hu, e⟩ := depths_in q
      by_cases c : Tm.depths ts ≤ t.depth
      · exact ⟨t, List.mem_cons_self, Nat.max_eq_left c⟩
      · exact ⟨u, List.mem_cons_of_mem _ hu, by rw [← e]; exact Nat.max_eq_right (by omega)⟩
theorem depths_max {ts : List Tm} {m : Int} (hm : m ∈ ts.map (fun u => (u.depth : Int))) (hk : ∀ k ∈ ts.map (fun u => (u.depth : Int)), k ≤ m) : (Tm.depths ts : Int) = m := by
  obtain ⟨u, hu, rfl⟩ := List.mem_map.mp hm
  have h1 := depths_ge hu
  obtain ⟨v, hv, e⟩ := depths_in (ts := ts) (fun z => by rw [z] at hu; cases hu)
  have h2 := hk _ (List.mem_map.mpr ⟨v, hv, rfl⟩)
  have h2' : (v.depth : Int) ≤ (u.depth : Int) := h2
  omega
def ArOk : Tm → Prop
  | .ev _ => True
  | .nd _ ts => 1 ≤ ts.length ∧ ts.length ≤ 60
theorem Good.ar {ss : List Str} {n : Nat} {t : Tm} (h : Good ss n t) : ArOk t := by
  cases n with
  | zero => exact h.elim
  | succ n =>
    cases t with
    | ev s => trivial
    | nd k ts =>
      have h3 := h.1.three
      refine ⟨?_, by omega⟩
      have hk := h.1
      cases k with
      | delay f => have : ts.length = 1 := hk; omega
      | max => exact hk.1
      | min => exact hk.1
      | median => have : ts.length = 3 := hk; omega
      | mix ws => exact hk.1
/-- the direct subterms, as a new list -/
def spSubs (K : PySem.W.Frag) : Sp := fun vs H Q _ => ∃ (v : V) (t : Tm) (n : Nat), vs = [v] ∧ TmAt K H (n + 1) v t ∧ ArOk t ∧ ∀ l H' xs, Same H H' → H l = none → H' l = some (.lst xs) → All2 (TmAt K H' n) xs t.subs → Q (.ref l) H'
theorem cut_one (x : V) (xs : List V) : cutV (x :: xs) (some 1) none = xs := by
  unfold cutV
  rw [show HT.sIx (x :: xs).length 0 (some 1) = min 1 (x :: xs).length from HT.sIx_nat (x :: xs).length 0 1, HT.sIx_none, List.length_cons, show min 1 (xs.length + 1) = 1 by omega]
  show List.take (xs.length + 1 - 1) xs = xs
  rw [Nat.add_sub_cancel, List.take_length]
theorem not_whole (x : V) (xs : List V) : ¬ (HT.sIx (x :: xs).length 0 (some 1) = 0 ∧ HT.sIx (x :: xs).length (x :: xs).length none = (x :: xs).length) := fun z => by
  have e : HT.sIx (x :: xs).length 0 (some 1) = min 1 (x :: xs).length := HT.sIx_nat (x :: xs).length 0 1
  rw [e, List.length_cons] at z
  have := z.1
  omega
theorem str_no {x y : Str} (h : decide (x = y) = false) : decide (V.str x = V.str y) = false := decide_eq_false fun z => of_decide_eq_false h (V.str.inj z)
/-- the pairs of a mix, walked: what is collected -/
theorem mix_at {K : PySem.W.Frag} {H : Hp} {ws : List QQ} {ys xs : List V} (l1 : ys.length = xs.length) (l2 : ws.length = xs.length) (h : ∀ (i : Nat) y x f, ys[i]? = some y → xs[i]? = some x → ws[i]? = some f → ∃ q wv, y = .ref q ∧ SqT K H q [wv, x] ∧ FrB K H wv f.1 f.2 40) {i : Nat} {y : V} (hy : ys[i]? = some y) :
    ∃ x q wv f, xs[i]? = some x ∧ ws[i]? = some f ∧ y = .ref q ∧ SqT K H q [wv, x] ∧ FrB K H wv f.1 f.2 40 := by
  have hi : i < ys.length := (List.getElem?_eq_some_iff.mp hy).1
  have a : xs[i]? = some (xs[i]'(by omega)) := List.getElem?_eq_getElem _
  have b : ws[i]? = some (ws[i]'(by omega)) := List.getElem?_eq_getElem _
  obtain ⟨q, wv, e, h1, h2⟩ := h i y _ _ hy a b
  exact ⟨_, q, wv, _, a, b, e, h1, h2⟩
def ArN : Nat → Tm → Prop
  | 0, _ => False
  | _ + 1, .ev _ => True
  | n + 1, .nd _ ts => (1 ≤ ts.length ∧ ts.length ≤ 60) ∧ ∀ t ∈ ts, ArN n t
theorem Good.arN {ss : List Str} : ∀ {n : Nat} {t : Tm}, Good ss n t → ArN n t
  | 0, _, h => h
  | n + 1, .ev s, h => trivial
  | n + 1, .nd k ts, h => ⟨Good.ar (n := n + 1) (t := .nd k ts) h, fun t ht => (h.2 t ht).arN⟩
theorem ArN.ok {n : Nat} {t : Tm} (h : ArN n t) : ArOk t := by
  cases n with
  | zero => exact h.elim
  | succ n => cases t with
    | ev s => trivial
    | nd k ts => exact h.1
theorem ArN.sub {n : Nat} {t u : Tm} (h : ArN (n + 1) t) (hu : u ∈ t.subs) : ArN n u := by
  cases t with
  | ev s => cases hu
  | nd k ts => exact h.2 u hu
theorem ArN.len {n : Nat} {t : Tm} (h : ArN n t) : t.subs.length ≤ 60 := by
  cases n with
  | zero => exact h.elim
  | succ n => cases t with
    | ev s => exact Nat.zero_le _
    | nd k ts => exact h.1.2
def spSize (K : PySem.W.Frag) : Nat → Sp
  | 0 => fun _ _ _ _ => False
  | n + 1 => fun vs H Q _ => ∃ (v : V) (t : Tm), vs = [v] ∧ TmAt K H (n + 1) v t ∧ ArN (n + 1) t ∧ ∀ H', Same H H' → Q (.int (t.size : Nat)) H'
def spDepth (K : PySem.W.Frag) : Nat → Sp
  | 0 => fun _ _ _ _ => False
  | n + 1 => fun vs H Q _ => ∃ (v : V) (t : Tm), vs = [v] ∧ TmAt K H (n + 1) v t ∧ ArN (n + 1) t ∧ ∀ H', Same H H' → Q (.int (t.depth : Nat)) H'
/-! ### names in order of first occurrence -/
def addS (acc : List Str) (s : Str) : List Str := if s ∈ acc then acc else acc ++ [s]
def ded (l : List Str) : List Str := l.foldl addS []
theorem add_mem {acc : List Str} {s x : Str} : x ∈ addS acc s ↔ x ∈ acc ∨ x = s := by
  unfold addS
  by_cases h : s ∈ acc
  · rw [if_pos h]
    exact ⟨.inl, fun z => z.elim id fun e => by rw [e]; exact h⟩
  · rw [if_neg h, List.mem_append, List.mem_singleton]
theorem fold_mem : ∀ {l acc : List Str} {x : Str}, x ∈ l.foldl addS acc ↔ x ∈ acc ∨ x ∈ l
  | [], acc, x => by simp
  | s :: l, acc, x => by
    rw [List.foldl_cons, fold_mem (l := l), add_mem, List.mem_cons]
    constructor
    · rintro ((h | h) | h)
      · exact .inl h
      · exact .inr (.inl h)
      · exact .inr (.inr h)
    · rintro (h | h | h)
      · exact .inl (.inl h)
      · exact .inl (.inr h)
      · exact .inr h
theorem add_old {acc : List Str} {s : Str} (h : s ∈ acc) : addS acc s = acc := if_pos h
theorem add_new {acc : List Str} {s : Str} (h : s ∉ acc) : addS acc s = acc ++ [s] := if_neg h
/-- folding the first occurrences in is folding all in -/
theorem fold_ded : ∀ (l m acc : List Str), (l.foldl addS m).foldl addS acc = l.foldl addS (m.foldl addS acc)
  | [], _, _ => rfl
  | s :: l, m, acc => by
    rw [List.foldl_cons, List.foldl_cons, fold_ded l (addS m s) acc]
    congr 1
    by_cases h : s ∈ m
    · rw [add_old h, add_old (fold_mem.mpr (.inr h))]
    · rw [add_new h, List.foldl_append]
      rfl
theorem ded_into (l acc : List Str) : (ded l).foldl addS acc = l.foldl addS acc := fold_ded l [] acc
theorem in_strs (s : Str) (acc : List Str) : inV (.str s) (acc.map V.str) = decide (s ∈ acc) := by
  unfold inV
  rw [List.any_map]
  by_cases h : s ∈ acc
  · rw [decide_eq_true h]
    exact List.any_eq_true.mpr ⟨s, h, by show (s == s) = true; simp⟩
  · rw [decide_eq_false h]
    refine Bool.eq_false_iff.mpr fun z => ?_
    obtain ⟨y, hy, e⟩ := List.any_eq_true.mp z
    have e' : (y == s) = true := e
    rw [beq_iff_eq] at e'
    exact h (e' ▸ hy)
theorem flat_strs (l : List Str) : (l.map V.str).all flatV = true := by
  rw [List.all_map]
  exact List.all_eq_true.mpr fun _ _ => rfl
theorem flats_take {ts : List Tm} {i : Nat} {u : Tm} (h : ts[i]? = some u) : Tm.flats (ts.take (i + 1)) = Tm.flats (ts.take i) ++ u.flat := by
  have app : ∀ a b : List Tm, Tm.flats (a ++ b) = Tm.flats a ++ Tm.flats b := by
    intro a b
    induction a with
    | nil => rfl
    | cons x a ih => rw [List.cons_append, Tm.flats, Tm.flats, ih, List.append_assoc]
  rw [List.take_add_one, h, app]
  show _ ++ Tm.flats [u] = _
  rw [Tm.flats, Tm.flats, List.append_nil]
theorem ded_app (a b : List Str) : ded (a ++ b) = b.foldl addS (ded a) := List.foldl_append ..
theorem ded_len : ∀ (l acc : List Str), (l.foldl addS acc).length ≤ acc.length + l.length
  | [], acc => Nat.le_refl _
  | s :: l, acc => by
    have h := ded_len l (addS acc s)
    have h2 : (addS acc s).length ≤ acc.length + 1 := by
      unfold addS
      split
      · omega
      · rw [List.length_append]; exact Nat.le_refl _
    rw [List.foldl_cons, List.length_cons]
    omega
def spNames (K : PySem.W.Frag) : Nat → Sp
  | 0 => fun _ _ _ _ => False
  | n + 1 => fun vs H Q _ => ∃ (v : V) (t : Tm), vs = [v] ∧ TmAt K H (n + 1) v t ∧ ArN (n + 1) t ∧ t.flat.length ≤ 1000 ∧ ∀ l H', Same H H' → H l = none → H' l = some (.lst ((ded t.flat).map V.str)) → Q (.ref l) H'
mutual
theorem flat_size : ∀ t : Tm, t.flat.length ≤ t.size
  | .ev s => by rw [Tm.flat, Tm.size]; exact Nat.le_refl _
  | .nd k ts => by
    rw [Tm.flat, Tm.size]
    have := flats_size ts
    omega
theorem flats_size : ∀ ts : List Tm, (Tm.flats ts).length ≤ Tm.sizes ts
  | [] => by rw [Tm.flats, Tm.sizes]; exact Nat.le_refl _
  | t :: ts => by
    rw [Tm.flats, Tm.sizes, List.length_append]
    have := flat_size t
    have := flats_size ts
    omega
end
/-! ### rationals -/
def toR (f : QQ) : Rat := Rat.divInt f.1 f.2
def ofR (q : Rat) : QQ := (q.num, (q.den : Int))
theorem low_ofR (q : Rat) : Low (ofR q) := by
  refine ⟨?_, ?_⟩
  · have := q.den_pos
    show (0 : Int) < (q.den : Int)
    omega
  · show Int.gcd q.num (q.den : Int) = 1
    have := q.reduced
    rw [Int.gcd_eq_natAbs_gcd_natAbs, Int.natAbs_natCast]
    exact this
theorem toR_ofR (q : Rat) : toR (ofR q) = q := Rat.num_divInt_den q
theorem red_R {n d : Int} (hd : d ≠ 0) : red n d = ofR (Rat.divInt n d) := by
  refine red_unique hd (low_ofR _).1 (low_ofR _).2 ?_
  show (Rat.divInt n d).num * d = n * ((Rat.divInt n d).den : Int)
  have h := Rat.num_divInt_den (Rat.divInt n d)
  have hz : ((Rat.divInt n d).den : Int) ≠ 0 := by have := (Rat.divInt n d).den_pos; omega
  exact (Rat.divInt_eq_divInt_iff hz hd).mp h
theorem ofR_toR {f : QQ} (h : Low f) : ofR (toR f) = f := by
  have e := red_R (n := f.1) (d := f.2) (by have := h.1; omega)
  rw [red_self h.1 h.2] at e
  exact e.symm
theorem den_ne (q : Rat) : (q.den : Int) ≠ 0 := by have := q.den_pos; omega
theorem radd_R (x y : Rat) : radd (ofR x) (ofR y) = ofR (x + y) := by
  show red (x.num * y.den + y.num * x.den) ((x.den : Int) * y.den) = _
  rw [red_R (Int.mul_ne_zero (den_ne x) (den_ne y)), ← Rat.divInt_add_divInt _ _ (den_ne x) (den_ne y), Rat.num_divInt_den, Rat.num_divInt_den]
theorem rsub_R (x y : Rat) : red (x.num * y.den - y.num * x.den) ((x.den : Int) * y.den) = ofR (x - y) := by
  rw [red_R (Int.mul_ne_zero (den_ne x) (den_ne y)), ← Rat.divInt_sub_divInt _ _ (den_ne x) (den_ne y), Rat.num_divInt_den, Rat.num_divInt_den]
theorem rmul_R (x y : Rat) : red (x.num * y.num) ((x.den : Int) * y.den) = ofR (x * y) := by
  rw [red_R (Int.mul_ne_zero (den_ne x) (den_ne y)), ← Rat.divInt_mul_divInt, Rat.num_divInt_den, Rat.num_divInt_den]
theorem rlt_R (x y : Rat) : rlt (ofR x) (ofR y) = decide (x < y) := by
  unfold rlt
  exact decide_eq_decide.mpr (Rat.lt_iff x y).symm
/-- the rational q, as a tuple, below 2 ^ B -/
def FR (K : PySem.W.Frag) (H : Hp) (v : V) (q : Rat) (B : Nat) : Prop := FrB K H v (ofR q).1 (ofR q).2 B
theorem FR.of {K : PySem.W.Frag} {H : Hp} {v : V} {f : QQ} {B : Nat} (h : FrB K H v f.1 f.2 B) : FR K H v (toR f) B := by
  have e := ofR_toR (f := f) ⟨h.d0, h.g⟩
  unfold FR
  rw [e]
  exact h
theorem FR.of' {K : PySem.W.Frag} {H : Hp} {v : V} {n d : Int} {B : Nat} (h : FrB K H v n d B) : FR K H v (toR (n, d)) B := FR.of (f := (n, d)) h
def Bt (q : Rat) (B : Nat) : Prop := (ofR q).1.natAbs < 2 ^ B ∧ (ofR q).2.natAbs < 2 ^ B
theorem FR.bt {K : PySem.W.Frag} {H : Hp} {v : V} {q : Rat} {B : Nat} (h : FR K H v q B) : Bt q B := ⟨h.nB, h.dB⟩
theorem Bt.up {q : Rat} {B C : Nat} (h : Bt q B) (l : B ≤ C) : Bt q C := ⟨Nat.lt_of_lt_of_le h.1 (Nat.pow_le_pow_right (by decide) l), Nat.lt_of_lt_of_le h.2 (Nat.pow_le_pow_right (by decide) l)⟩
theorem FR.mk {K : PySem.W.Frag} {H : Hp} {v : V} {q : Rat} {B : Nat} (f : Fr K H v (ofR q).1 (ofR q).2) (b : Bt q B) : FR K H v q B := ⟨f, (low_ofR q).1, (low_ofR q).2, b.1, b.2⟩
theorem FR.new {K : PySem.W.Frag} {H : Hp} {p : Addr} {q : Rat} {B : Nat} (b : Bt q B) : FR K (upd H p (.tup [.int (ofR q).1, .int (ofR q).2])) (.ref p) q B := FR.mk Fr.new b
theorem Bt.red {n d : Int} {B : Nat} (hd : d ≠ 0) (h1 : n.natAbs < 2 ^ B) (h2 : d.natAbs < 2 ^ B) : Bt (Rat.divInt n d) B := by
  have e := red_R (n := n) hd
  refine ⟨?_, ?_⟩
  · rw [← e]; exact Nat.lt_of_le_of_lt (red_le1 hd) h1
  · rw [← e]; exact Nat.lt_of_le_of_lt (red_le2 hd) h2
theorem Bt.add {x y : Rat} {A B : Nat} (hx : Bt x A) (hy : Bt y B) : Bt (x + y) (A + B + 1) := by
  have e : x + y = Rat.divInt (x.num * y.den + y.num * x.den) ((x.den : Int) * y.den) := by rw [← Rat.divInt_add_divInt _ _ (den_ne x) (den_ne y), Rat.num_divInt_den, Rat.num_divInt_den]
  rw [e]
  have h1 : x.num.natAbs < 2 ^ A := hx.1
  have h2 : (x.den : Int).natAbs < 2 ^ A := hx.2
  have h3 : y.num.natAbs < 2 ^ B := hy.1
  have h4 : (y.den : Int).natAbs < 2 ^ B := hy.2
  have m : ∀ {a b : Nat}, a < 2 ^ A → b < 2 ^ B → a * b < 2 ^ (A + B) := fun ha hb => by rw [Nat.pow_add]; exact Nat.mul_lt_mul'' ha hb
  refine Bt.red (Int.mul_ne_zero (den_ne x) (den_ne y)) ?_ ?_
  · have k1 : (x.num * (y.den : Int)).natAbs < 2 ^ (A + B) := by rw [Int.natAbs_mul]; exact m h1 h4
    have k2 : (y.num * (x.den : Int)).natAbs < 2 ^ (A + B) := by rw [Int.natAbs_mul, Nat.mul_comm]; exact m h2 h3
    rw [Nat.pow_succ]
    omega
  · have k : ((x.den : Int) * (y.den : Int)).natAbs < 2 ^ (A + B) := by rw [Int.natAbs_mul]; exact m h2 h4
    rw [Nat.pow_succ]
    omega
theorem Bt.mul {x y : Rat} {A B : Nat} (hx : Bt x A) (hy : Bt y B) : Bt (x * y) (A + B) := by
  have e : x * y = Rat.divInt (x.num * y.num) ((x.den : Int) * y.den) := by rw [← Rat.divInt_mul_divInt, Rat.num_divInt_den, Rat.num_divInt_den]
  rw [e]
  have m : ∀ {a b : Nat}, a < 2 ^ A → b < 2 ^ B → a * b < 2 ^ (A + B) := fun ha hb => by rw [Nat.pow_add]; exact Nat.mul_lt_mul'' ha hb
  refine Bt.red (Int.mul_ne_zero (den_ne x) (den_ne y)) ?_ ?_
  · rw [Int.natAbs_mul]; exact m hx.1 hy.1
  · rw [Int.natAbs_mul]; exact m hx.2 hy.2
theorem Bt.neg {x : Rat} {A : Nat} (hx : Bt x A) : Bt (-x) A := by
  refine ⟨?_, ?_⟩
  · show ((-x).num).natAbs < 2 ^ A
    rw [Rat.neg_num, Int.natAbs_neg]; exact hx.1
  · show ((-x).den : Int).natAbs < 2 ^ A
    rw [Rat.neg_den]; exact hx.2
theorem Bt.sub {x y : Rat} {A B : Nat} (hx : Bt x A) (hy : Bt y B) : Bt (x - y) (A + B + 1) := by
  rw [Rat.sub_eq_add_neg]
  exact hx.add hy.neg
theorem bt0 {B : Nat} : Bt 0 (B + 1) := by
  have : (2 : Nat) ≤ 2 ^ (B + 1) := Nat.le_trans (by decide) (Nat.pow_le_pow_right (by decide) (show 1 ≤ B + 1 by omega))
  exact ⟨by show (0 : Nat) < _; omega, by show (1 : Nat) < _; omega⟩
/-- what is called with a rational -/
theorem FR.up {K : PySem.W.Frag} {H : Hp} {v : V} {q : Rat} {B C : Nat} (f : FR K H v q B) (h : B ≤ C) : FR K H v q C := FR.mk f.fr (f.bt.up h)
theorem FR.same {K : PySem.W.Frag} {H H' : Hp} {v : V} {q : Rat} {B : Nat} (f : FR K H v q B) (k : Same H H') : FR K H' v q B := FrB.same f k
theorem FR.kp {K : PySem.W.Frag} {H H' : Hp} {r : Addr} {v : V} {q : Rat} {B : Nat} (f : FR K H v q B) (R : Rg H r) (k : Kp r H H') : FR K H' v q B := FrB.kp f R k
theorem FR.put {K : PySem.W.Frag} {H : Hp} {v : V} {q : Rat} {B : Nat} {D : Addr} {l l' : List V} (f : FR K H v q B) (hD : H D = some (.lst l)) : FR K (upd H D (.lst l')) v q B := FrB.put' f hD
/-- a list of rationals -/
def FRs (K : PySem.W.Frag) (H : Hp) (xs : List V) (qs : List Rat) (B : Nat) : Prop := Frs K H xs (qs.map ofR) B
theorem FRs.len {K : PySem.W.Frag} {H : Hp} {xs : List V} {qs : List Rat} {B : Nat} (h : FRs K H xs qs B) : xs.length = qs.length := by
  have := h.1
  rw [List.length_map] at this
  exact this
theorem FRs.nil {K : PySem.W.Frag} {H : Hp} {B : Nat} : FRs K H [] [] B := Frs.nil'
theorem FRs.cons {K : PySem.W.Frag} {H : Hp} {x : V} {q : Rat} {xs : List V} {qs : List Rat} {B : Nat} (h : FR K H x q B) (t : FRs K H xs qs B) : FRs K H (x :: xs) (q :: qs) B := Frs.cons' (f := ofR q) h t
theorem FRs.at {K : PySem.W.Frag} {H : Hp} {xs : List V} {qs : List Rat} {B : Nat} (h : FRs K H xs qs B) {i : Nat} {x : V} {q : Rat} (hx : xs[i]? = some x) (hq : qs[i]? = some q) : FR K H x q B := h.2 i x (ofR q) hx (by rw [List.getElem?_map, hq]; rfl)
theorem FRs.app {K : PySem.W.Frag} {H : Hp} {xs ys : List V} {qs rs : List Rat} {B : Nat} (a : FRs K H xs qs B) (b : FRs K H ys rs B) : FRs K H (xs ++ ys) (qs ++ rs) B := by
  unfold FRs
  rw [List.map_append]
  exact Frs.app' a b
theorem FRs.snoc {K : PySem.W.Frag} {H : Hp} {xs : List V} {qs : List Rat} {x : V} {q : Rat} {B : Nat} (a : FRs K H xs qs B) (h : FR K H x q B) : FRs K H (xs ++ [x]) (qs ++ [q]) B := a.app (FRs.cons h FRs.nil)
theorem FRs.mono {K : PySem.W.Frag} {H H' : Hp} {xs : List V} {qs : List Rat} {B C : Nat} (a : FRs K H xs qs B) (h : ∀ v q, FR K H v q B → FR K H' v q C) : FRs K H' xs qs C := ⟨a.1, fun i x f hx hf => by
  rw [List.getElem?_map] at hf
  cases e : qs[i]? with
  | none => rw [e] at hf; cases hf
  | some q => rw [e] at hf; cases hf; exact h x q (a.at hx e)⟩
theorem FRs.get {K : PySem.W.Frag} {H : Hp} {xs : List V} {qs : List Rat} {B : Nat} (h : FRs K H xs qs B) {i : Nat} {x : V} (hx : xs[i]? = some x) : ∃ q, qs[i]? = some q ∧ FR K H x q B := by
  have l : i < qs.length := by rw [← h.len]; exact (List.getElem?_eq_some_iff.mp hx).1
  exact ⟨qs[i], List.getElem?_eq_getElem l, h.at hx (List.getElem?_eq_getElem l)⟩
/-! ### the value of a term -/
def lmax : List Rat → Rat
  | [] => 0
  | [x] => x
  | x :: xs => max x (lmax xs)
def lmin : List Rat → Rat
  | [] => 0
  | [x] => x
  | x :: xs => min x (lmin xs)
/-- the second largest of three -/
def med3 (x y z : Rat) : Rat := max (min x y) (min (max x y) z)
def lmed : List Rat → Rat
  | [x, y, z] => med3 x y z
  | _ => 0
def lmix : List Rat → List Rat → Rat
  | w :: ws, x :: xs => w * x + lmix ws xs
  | _, _ => 0
def Kd.comb : Kd → List Rat → Rat
  | .delay f, xs => lmax xs + toR f
  | .max, xs => lmax xs
  | .min, xs => lmin xs
  | .median, xs => lmed xs
  | .mix ws, xs => lmix (ws.map toR) xs
mutual
def Tm.val (ρ : Str → Rat) : Tm → Rat
  | .ev s => ρ s
  | .nd k ts => k.comb (Tm.vals ρ ts)
def Tm.vals (ρ : Str → Rat) : List Tm → List Rat
  | [] => []
  | t :: ts => t.val ρ :: Tm.vals ρ ts
end
theorem vals_map (ρ : Str → Rat) : ∀ ts : List Tm, Tm.vals ρ ts = ts.map (Tm.val ρ)
  | [] => by rw [Tm.vals]; rfl
  | t :: ts => by rw [Tm.vals, vals_map ρ ts]; rfl
/-! ### order, shift -/
def Le2 (xs ys : List Rat) : Prop := xs.length = ys.length ∧ ∀ (i : Nat) x y, xs[i]? = some x → ys[i]? = some y → x ≤ y
theorem Le2.uncons {x y : Rat} {xs ys : List Rat} (h : Le2 (x :: xs) (y :: ys)) : x ≤ y ∧ Le2 xs ys := ⟨h.2 0 x y rfl rfl, by have := h.1; simpa using this, fun i a b ha hb => h.2 (i + 1) a b ha hb⟩
theorem lmax_mono : ∀ {xs ys : List Rat}, Le2 xs ys → lmax xs ≤ lmax ys
  | [], [], _ => Rat.le_refl
  | [], _ :: _, h => by have := h.1; cases this
  | _ :: _, [], h => by have := h.1; cases this
  | [x], [y], h => h.uncons.1
  | [x], _ :: _ :: _, h => by have := h.1; cases this
  | _ :: _ :: _, [y], h => by have := h.1; cases this
  | x :: a :: xs, y :: b :: ys, h => by
    have i := lmax_mono h.uncons.2
    have j := h.uncons.1
    show max x (lmax (a :: xs)) ≤ max y (lmax (b :: ys))
    generalize lmax (a :: xs) = u at *
    generalize lmax (b :: ys) = v at *
    rw [Rat.max_def, Rat.max_def]
    grind
theorem lmin_mono : ∀ {xs ys : List Rat}, Le2 xs ys → lmin xs ≤ lmin ys
  | [], [], _ => Rat.le_refl
  | [], _ :: _, h => by have := h.1; cases this
  | _ :: _, [], h => by have := h.1; cases this
  | [x], [y], h => h.uncons.1
  | [x], _ :: _ :: _, h => by have := h.1; cases this
  | _ :: _ :: _, [y], h => by have := h.1; cases this
  | x :: a :: xs, y :: b :: ys, h => by
    have i := lmin_mono h.uncons.2
    have j := h.uncons.1
    show min x (lmin (a :: xs)) ≤ min y (lmin (b :: ys))
    generalize lmin (a :: xs) = u at *
    generalize lmin (b :: ys) = v at *
    rw [Rat.min_def, Rat.min_def]
    grind
theorem med3_mono {x y z x' y' z' : Rat} (h1 : x ≤ x') (h2 : y ≤ y') (h3 : z ≤ z') : med3 x y z ≤ med3 x' y' z' := by
  unfold med3
  simp only [Rat.max_def, Rat.min_def]
  grind
theorem lmed_mono : ∀ {xs ys : List Rat}, Le2 xs ys → lmed xs ≤ lmed ys := by
  intro xs ys h
  unfold lmed
  split
  · rename_i x y z
    match ys, h with
    | [x', y', z'], h => exact med3_mono h.uncons.1 h.uncons.2.uncons.1 h.uncons.2.uncons.2.uncons.1
    | [], h => have := h.1; cases this
    | [_], h => have := h.1; cases this
    | [_, _], h => have := h.1; cases this
    | _ :: _ :: _ :: _ :: _, h => have := h.1; cases this
  · rename_i ne
    split
    · rename_i x y z
      match xs, h, ne with
      | [a, b, c], _, ne => exact absurd rfl (ne a b c)
      | [], h, _ => have := h.1; cases this
      | [_], h, _ => have := h.1; cases this
      | [_, _], h, _ => have := h.1; cases this
      | _ :: _ :: _ :: _ :: _, h, _ => have := h.1; cases this
    · exact Rat.le_refl
theorem lmix_mono : ∀ {ws xs ys : List Rat}, (∀ w ∈ ws, 0 ≤ w) → Le2 xs ys → lmix ws xs ≤ lmix ws ys
  | [], xs, ys, _, _ => by cases xs <;> cases ys <;> exact Rat.le_refl
  | w :: ws, [], [], _, _ => Rat.le_refl
  | w :: ws, [], _ :: _, _, h => by have := h.1; cases this
  | w :: ws, _ :: _, [], _, h => by have := h.1; cases this
  | w :: ws, x :: xs, y :: ys, hw, h => by
    have i := lmix_mono (fun v hv => hw v (List.mem_cons_of_mem _ hv)) h.uncons.2
    have j := Rat.mul_le_mul_of_nonneg_left h.uncons.1 (hw w List.mem_cons_self)
    show w * x + lmix ws xs ≤ w * y + lmix ws ys
    grind
theorem lmax_shift (c : Rat) : ∀ {xs : List Rat}, xs ≠ [] → lmax (xs.map (· + c)) = lmax xs + c
  | [], h => absurd rfl h
  | [x], _ => rfl
  | x :: a :: xs, _ => by
    have i := lmax_shift c (xs := a :: xs) (by simp)
    show max (x + c) (lmax ((a :: xs).map (· + c))) = max x (lmax (a :: xs)) + c
    rw [i]
    generalize lmax (a :: xs) = u
    simp only [Rat.max_def]
    grind
theorem lmin_shift (c : Rat) : ∀ {xs : List Rat}, xs ≠ [] → lmin (xs.map (· + c)) = lmin xs + c
  | [], h => absurd rfl h
  | [x], _ => rfl
  | x :: a :: xs, _ => by
    have i := lmin_shift c (xs := a :: xs) (by simp)
    show min (x + c) (lmin ((a :: xs).map (· + c))) = min x (lmin (a :: xs)) + c
    rw [i]
    generalize lmin (a :: xs) = u
    simp only [Rat.min_def]
    grind
theorem med3_shift (c x y z : Rat) : med3 (x + c) (y + c) (z + c) = med3 x y z + c := by
  unfold med3
  simp only [Rat.max_def, Rat.min_def]
  grind
theorem lmix_shift (c : Rat) : ∀ {ws xs : List Rat}, ws.length = xs.length → lmix ws (xs.map (· + c)) = lmix ws xs + ws.sum * c
  | [], [], _ => by show (0 : Rat) = 0 + (0 : Rat) * c; grind
  | [], _ :: _, h => by cases h
  | _ :: _, [], h => by cases h
  | w :: ws, x :: xs, h => by
    have i := lmix_shift c (ws := ws) (xs := xs) (by simpa using h)
    show w * (x + c) + lmix ws (xs.map (· + c)) = w * x + lmix ws xs + (w :: ws).sum * c
    rw [i, List.sum_cons]
    grind
/-! ### promises over rationals -/
def spAddR (K : PySem.W.Frag) : Sp := fun vs H Q _ => ∃ (v1 v2 : V) (x y : Rat), vs = [v1, v2] ∧ FR K H v1 x 3900 ∧ FR K H v2 y 3900 ∧ ∀ p, H p = none → Q (.ref p) (upd H p (.tup [.int (ofR (x + y)).1, .int (ofR (x + y)).2]))
def spSubR (K : PySem.W.Frag) : Sp := fun vs H Q _ => ∃ (v1 v2 : V) (x y : Rat), vs = [v1, v2] ∧ FR K H v1 x 3900 ∧ FR K H v2 y 3900 ∧ ∀ p, H p = none → Q (.ref p) (upd H p (.tup [.int (ofR (x - y)).1, .int (ofR (x - y)).2]))
def spMulR (K : PySem.W.Frag) : Sp := fun vs H Q _ => ∃ (v1 v2 : V) (x y : Rat), vs = [v1, v2] ∧ FR K H v1 x 3900 ∧ FR K H v2 y 3900 ∧ ∀ p, H p = none → Q (.ref p) (upd H p (.tup [.int (ofR (x * y)).1, .int (ofR (x * y)).2]))
theorem lmax_eq : ∀ {qs : List Rat} {j : Nat} {q : Rat}, qs[j]? = some q → (∀ (i : Nat) g, qs[i]? = some g → g ≤ q) → lmax qs = q
  | [], j, q, h, _ => by cases h
  | [x], j, q, h, k => by
    cases j with
    | zero => cases h; rfl
    | succ j => cases h
  | x :: y :: qs, j, q, h, k => by
    show max x (lmax (y :: qs)) = q
    have hx := k 0 x rfl
    cases j with
    | zero =>
      cases h
      have up : ∀ {l : List Rat}, l ≠ [] → (∀ (i : Nat) g, l[i]? = some g → g ≤ x) → lmax l ≤ x := by
        intro l
        induction l with
        | nil => intro h; exact absurd rfl h
        | cons a l ih =>
          intro _ h
          cases l with
          | nil => exact h 0 a rfl
          | cons b l =>
            show max a (lmax (b :: l)) ≤ x
            have h1 := h 0 a rfl
            have h2 := ih (by simp) fun i g hg => h (i + 1) g hg
            rw [Rat.max_def]
            split <;> assumption
      have h2 := up (l := y :: qs) (by simp) fun i g hg => k (i + 1) g hg
      rw [Rat.max_def]
      grind
    | succ j =>
      rw [lmax_eq (qs := y :: qs) (j := j) h fun i g hg => k (i + 1) g hg, Rat.max_def]
      grind
theorem lmin_eq : ∀ {qs : List Rat} {j : Nat} {q : Rat}, qs[j]? = some q → (∀ (i : Nat) g, qs[i]? = some g → q ≤ g) → lmin qs = q
  | [], j, q, h, _ => by cases h
  | [x], j, q, h, k => by
    cases j with
    | zero => cases h; rfl
    | succ j => cases h
  | x :: y :: qs, j, q, h, k => by
    show min x (lmin (y :: qs)) = q
    have hx := k 0 x rfl
    cases j with
    | zero =>
      cases h
      have up : ∀ {l : List Rat}, l ≠ [] → (∀ (i : Nat) g, l[i]? = some g → x ≤ g) → x ≤ lmin l := by
        intro l
        induction l with
        | nil => intro h; exact absurd rfl h
        | cons a l ih =>
          intro _ h
          cases l with
          | nil => exact h 0 a rfl
          | cons b l =>
            show x ≤ min a (lmin (b :: l))
            have h1 := h 0 a rfl
            have h2 := ih (by simp) fun i g hg => h (i + 1) g hg
            rw [Rat.min_def]
            split <;> assumption
      have h2 := up (l := y :: qs) (by simp) fun i g hg => k (i + 1) g hg
      rw [Rat.min_def]
      grind
    | succ j =>
      rw [lmin_eq (qs := y :: qs) (j := j) h fun i g hg => k (i + 1) g hg, Rat.min_def]
      grind
theorem fst_R {lt : QQ → QQ → Bool} {qs : List Rat} {j : Nat} (f : Fst lt (qs.map ofR) j) : ∃ q, qs[j]? = some q ∧ ∀ (i : Nat) g, qs[i]? = some g → lt (ofR q) (ofR g) = false := by
  obtain ⟨f, e, k, _⟩ := f
  rw [List.getElem?_map] at e
  cases h : qs[j]? with
  | none => rw [h] at e; cases e
  | some q =>
    rw [h] at e
    cases e
    exact ⟨q, rfl, fun i g hg => k i (ofR g) (by rw [List.getElem?_map, hg]; rfl)⟩
theorem max_R {qs : List Rat} {j : Nat} (f : Fst rlt (qs.map ofR) j) : qs[j]? = some (lmax qs) := by
  obtain ⟨q, h, k⟩ := fst_R f
  rw [lmax_eq h fun i g hg => by
    have z := k i g hg
    rw [rlt_R] at z
    exact Rat.not_lt.mp (of_decide_eq_false z)]
  exact h
theorem min_R {qs : List Rat} {j : Nat} (f : Fst (fun a b => rlt b a) (qs.map ofR) j) : qs[j]? = some (lmin qs) := by
  obtain ⟨q, h, k⟩ := fst_R f
  rw [lmin_eq h fun i g hg => by
    have z := k i g hg
    rw [rlt_R] at z
    exact Rat.not_lt.mp (of_decide_eq_false z)]
  exact h
/-- the place of the greatest, the least -/
def spIx (K : PySem.W.Frag) (best : List Rat → Rat) : Sp := fun vs H Q _ => ∃ (p : Addr) (xs : List V) (qs : List Rat), vs = [.ref p] ∧ Sq K H p xs ∧ FRs K H xs qs 3900 ∧ 0 < xs.length ∧ ∀ (j : Nat) H', Same H H' → qs[j]? = some (best qs) → Q (.int (j : Nat)) H'
/-- the greatest, the least itself -/
def spBest (K : PySem.W.Frag) (best : List Rat → Rat) : Sp := fun vs H Q _ => ∃ (p : Addr) (xs : List V) (qs : List Rat) (B : Nat), vs = [.ref p] ∧ SqL K H p xs ∧ FRs K H xs qs B ∧ B ≤ 20000 ∧ 0 < xs.length ∧ ∀ v, v ∈ xs → FR K H v (best qs) B → Q v H
/-- sums -/
theorem bt_up0 {B : Nat} (h : 0 < B) : Bt 0 B := by
  cases B with
  | zero => cases h
  | succ B => exact bt0
/-! ### terms and tables -/
mutual
def Tm.bt (b : Nat) : Tm → Nat
  | .ev _ => b
  | .nd _ ts => ts.length * (Tm.bm b ts + 41) + 2
def Tm.bm (b : Nat) : List Tm → Nat
  | [] => 0
  | t :: ts => Nat.max (t.bt b) (Tm.bm b ts)
end
theorem bm_ge {b : Nat} : ∀ {ts : List Tm} {u : Tm}, u ∈ ts → u.bt b ≤ Tm.bm b ts
  | t :: ts, u, h => by
    rw [Tm.bm]
    rcases List.mem_cons.mp h with z | z
    · rw [z]; exact Nat.le_max_left _ _
    · exact Nat.le_trans (bm_ge z) (Nat.le_max_right _ _)
theorem bm_le {b B : Nat} : ∀ {ts : List Tm}, (∀ t ∈ ts, t.bt b ≤ B) → Tm.bm b ts ≤ B
  | [], _ => by rw [Tm.bm]; exact Nat.zero_le _
  | t :: ts, h => by
    rw [Tm.bm]
    exact Nat.max_le.mpr ⟨h t List.mem_cons_self, bm_le fun u hu => h u (List.mem_cons_of_mem _ hu)⟩
/-- fit for evaluation -/
def VOk : Nat → Tm → Prop
  | 0, _ => False
  | _ + 1, .ev _ => True
  | n + 1, .nd k ts => ((1 ≤ ts.length ∧ ts.length ≤ 60) ∧ (k = .median → ts.length = 3)) ∧ ∀ t ∈ ts, VOk n t
theorem VOk.arN : ∀ {n : Nat} {t : Tm}, VOk n t → ArN n t
  | 0, _, h => h
  | n + 1, .ev _, _ => trivial
  | n + 1, .nd k ts, h => ⟨h.1.1, fun t ht => (h.2 t ht).arN⟩
theorem VOk.up : ∀ {n : Nat} {t : Tm}, VOk n t → VOk (n + 1) t
  | 0, _, h => h.elim
  | n + 1, .ev _, _ => trivial
  | n + 1, .nd k ts, h => ⟨h.1, fun t ht => (h.2 t ht).up⟩
theorem VOk.le {n m : Nat} (l : n ≤ m) {t : Tm} (h : VOk n t) : VOk m t := by
  induction l with
  | refl => exact h
  | step _ ih => exact ih.up
theorem Good.vok {ss : List Str} : ∀ {n : Nat} {t : Tm}, Good ss n t → VOk n t
  | 0, _, h => h
  | n + 1, .ev s, h => trivial
  | n + 1, .nd k ts, h => ⟨⟨Good.ar (n := n + 1) (t := .nd k ts) h, fun e => by have := h.1; rw [e] at this; exact this⟩, fun t ht => (h.2 t ht).vok⟩
def btG (b : Nat) : Nat → Nat
  | 0 => b
  | n + 1 => 3 * (btG b n + 41) + 2
theorem btG_ge (b : Nat) : ∀ n, b ≤ btG b n
  | 0 => Nat.le_refl _
  | n + 1 => by have := btG_ge b n; rw [btG]; omega
theorem Good.bt {ss : List Str} {b : Nat} : ∀ {n : Nat} {t : Tm}, Good ss (n + 1) t → t.bt b ≤ btG b n
  | n, .ev s, _ => by rw [Tm.bt]; exact btG_ge b n
  | 0, .nd k ts, h => by
    exfalso
    have h1 := (Good.ar (n := 1) (t := .nd k ts) h).1
    obtain ⟨u, hu⟩ : ∃ u, u ∈ ts := by
      cases ts with
      | nil => exact absurd h1 (by simp)
      | cons u _ => exact ⟨u, List.mem_cons_self⟩
    exact h.2 u hu
  | n + 1, .nd k ts, h => by
    have h3 := h.1.three
    have hb := bm_le (b := b) (B := btG b n) fun t ht => (h.2 t ht).bt
    have m1 := Nat.mul_le_mul h3 (Nat.add_le_add_right hb 41)
    rw [Tm.bt, btG]
    omega
def Tbl (K : PySem.W.Frag) (H : Hp) (d : Addr) (ρ : Str → Rat) (ss : List Str) (b : Nat) : Prop := ∃ kvs : List (Key × V), H d = some (.dK kvs) ∧ ∀ s ∈ ss, ∃ v, valV kvs (Sum.inr s : Key) = some v ∧ FR K H v (ρ s) b
theorem Tbl.same {K : PySem.W.Frag} {H H' : Hp} {d : Addr} {ρ : Str → Rat} {ss : List Str} {b : Nat} (h : Tbl K H d ρ ss b) (s : Same H H') : Tbl K H' d ρ ss b := by
  obtain ⟨kvs, e, k⟩ := h
  exact ⟨kvs, s _ _ e, fun x hx => by obtain ⟨v, h1, h2⟩ := k x hx; exact ⟨v, h1, h2.same s⟩⟩
theorem Tbl.sub {K : PySem.W.Frag} {H : Hp} {d : Addr} {ρ : Str → Rat} {ss ts : List Str} {b : Nat} (h : Tbl K H d ρ ss b) (k : ∀ s ∈ ts, s ∈ ss) : Tbl K H d ρ ts b := by
  obtain ⟨kvs, e, z⟩ := h
  exact ⟨kvs, e, fun x hx => z x (k x hx)⟩
theorem Tbl.kp {K : PySem.W.Frag} {H H' : Hp} {r d : Addr} {ρ : Str → Rat} {ss : List Str} {b : Nat} (h : Tbl K H d ρ ss b) (R : Rg H r) (k : Kp r H H') : Tbl K H' d ρ ss b := by
  obtain ⟨kvs, e, z⟩ := h
  have dr : d ≠ r := by
    obtain ⟨c, ns, i, x, kk, R⟩ := R
    exact ne_of e R.hr fun z => by cases z
  exact ⟨kvs, k.1 _ _ dr e, fun x hx => by obtain ⟨v, h1, h2⟩ := z x hx; exact ⟨v, h1, h2.kp R k⟩⟩
theorem flat_mem {ts : List Tm} : ∀ {u : Tm}, u ∈ ts → ∀ s ∈ u.flat, s ∈ Tm.flats ts := by
  induction ts with
  | nil => intro u h; cases h
  | cons t ts ih =>
    intro u h s hs
    rw [Tm.flats]
    rcases List.mem_cons.mp h with z | z
    · rw [z] at hs; exact List.mem_append_left _ hs
    · exact List.mem_append_right _ (ih z s hs)
def spVal (K : PySem.W.Frag) : Nat → Sp
  | 0 => fun _ _ _ _ => False
  | n + 1 => fun vs H Q _ => ∃ (v : V) (d : Addr) (t : Tm) (ρ : Str → Rat) (b : Nat), vs = [v, .ref d] ∧ TmAt K H (n + 1) v t ∧ VOk (n + 1) t ∧ t.bt b ≤ 3900 ∧ Tbl K H d ρ t.flat b ∧ ∀ u H', Same H H' → FR K H' u (t.val ρ) (t.bt b) → Q u H'
theorem TmAt.hd {K : PySem.W.Frag} {H : Hp} {n : Nat} {v : V} {k : Kd} {ts : List Tm} (ht : TmAt K H (n + 1) v (.nd k ts)) : ∃ p ys, v = .ref p ∧ SqT K H p (.str (kdS k) :: ys) := by
  obtain ⟨xs, hN, _⟩ := ht
  cases k with
  | delay f => obtain ⟨p, x, fv, _, e, hp, _⟩ := hN; exact ⟨p, _, e, hp⟩
  | max => obtain ⟨p, e, hp⟩ := hN; exact ⟨p, _, e, hp⟩
  | min => obtain ⟨p, e, hp⟩ := hN; exact ⟨p, _, e, hp⟩
  | median => obtain ⟨p, e, hp⟩ := hN; exact ⟨p, _, e, hp⟩
  | mix ws => obtain ⟨p, ys, e, hp, _⟩ := hN; exact ⟨p, _, e, hp⟩
theorem kd_ev (k : Kd) : decide (kdS k = ("event" : Str)) = false := by
  cases k with
  | delay f => exact (show decide (("delay" : Str) = "event") = false by decide +kernel)
  | max => exact (show decide (("max" : Str) = "event") = false by decide +kernel)
  | min => exact (show decide (("min" : Str) = "event") = false by decide +kernel)
  | median => exact (show decide (("median" : Str) = "event") = false by decide +kernel)
  | mix ws => exact (show decide (("mix" : Str) = "event") = false by decide +kernel)
theorem sum_lmix : ∀ (ws xs : List Rat) (s : Rat), (List.zipWith (· * ·) ws xs).foldl (· + ·) s = s + lmix ws xs
  | [], xs, s => by
    cases xs <;> (show s = s + (0 : Rat); grind)
  | w :: ws, [], s => by show s = s + (0 : Rat); grind
  | w :: ws, x :: xs, s => by
    show (List.zipWith (· * ·) ws xs).foldl (· + ·) (s + w * x) = s + (w * x + lmix ws xs)
    rw [sum_lmix ws xs]
    grind
theorem fr_zero {K : PySem.W.Frag} {H : Hp} {p : Addr} (h : SqT K H p [.int 0, .int 1]) : FR K H (.ref p) 0 1 := FR.mk ⟨p, rfl, h⟩ (bt0 (B := 0))
/-! ### distances -/
def rabs (x : Rat) : Rat := if x < 0 then -x else x
theorem rabs_of (x : Rat) : ofR (rabs x) = ((if (ofR x).1 < 0 then -(ofR x).1 else (ofR x).1), (ofR x).2) := by
  unfold rabs ofR
  have e : x < 0 ↔ x.num < 0 := by
    rw [Rat.lt_iff]
    show x.num * 1 < 0 * (x.den : Int) ↔ _
    rw [Int.mul_one, Int.zero_mul]
  by_cases h : x < 0
  · rw [if_pos h, if_pos (e.mp h), Rat.neg_num, Rat.neg_den]
  · rw [if_neg h, if_neg (fun z => h (e.mpr z))]
theorem Bt.abs {x : Rat} {B : Nat} (h : Bt x B) : Bt (rabs x) B := by
  unfold rabs
  split
  · exact h.neg
  · exact h
theorem rabs_le {x c : Rat} (h : rabs x ≤ c) : x ≤ c ∧ -x ≤ c := by
  unfold rabs at h
  split at h <;> grind
theorem rabs_of_le {x c : Rat} (h1 : x ≤ c) (h2 : -x ≤ c) : rabs x ≤ c := by
  unfold rabs
  split <;> assumption
theorem lmax_ge : ∀ {qs : List Rat} {q : Rat}, q ∈ qs → q ≤ lmax qs
  | [x], q, h => by rw [List.mem_singleton.mp h]; exact Rat.le_refl
  | x :: y :: qs, q, h => by
    show q ≤ max x (lmax (y :: qs))
    rcases List.mem_cons.mp h with z | z
    · rw [z, Rat.max_def]; grind
    · have := lmax_ge z
      rw [Rat.max_def]
      grind

/-! ### tables drawn pair by pair -/
def DTab (K : PySem.W.Frag) (H : Hp) (D : Addr) (ss : List Str) (i : Nat) (qs : List Rat) (b : Nat) : Prop := ∃ (pas : List Addr) (vs : List V), H D = some (.lst (pas.map V.ref)) ∧ pas.length = i ∧ vs.length = i ∧ FRs K H vs qs b ∧ ∀ (j : Nat) p s v, pas[j]? = some p → ss[j]? = some s → vs[j]? = some v → SqT K H p [.str s, v]
theorem DTab.nil {K : PySem.W.Frag} {H : Hp} {D : Addr} {ss : List Str} {b : Nat} : DTab K (upd H D (.lst [])) D ss 0 [] b := ⟨[], [], upd_same, rfl, rfl, FRs.nil, fun j p s v h => by cases h⟩
theorem SqT.put {K : PySem.W.Frag} {H : Hp} {D p : Addr} {l l' xs : List V} (h : SqT K H p xs) (hD : H D = some (.lst l)) : SqT K (upd H D (.lst l')) p xs := by
  rcases h with (z | ⟨o, z⟩) | z
  · exact .inl (.inl (by rw [upd_ne (ne_of z hD (fun y => by cases y))]; exact z))
  · exact .inl (.inr ⟨o, by rw [upd_ne (ne_of z hD (fun y => by cases y))]; exact z⟩)
  · exact .inr z
/-- one pair more: what stood at H1 stands at H2, there the pair (s, v) is made at p -/
theorem DTab.more {K : PySem.W.Frag} {H1 H2 : Hp} {D : Addr} {ss : List Str} {i : Nat} {qs : List Rat} {b : Nat} {s : Str} {v : V} {q : Rat} {p : Addr} (h : DTab K H1 D ss i qs b) (hi : i < 1000) (hs : ss[i]? = some s) (fD : ∀ l, H1 D = some (.lst l) → H2 D = some (.lst l)) (fT : ∀ p xs, SqT K H1 p xs → SqT K H2 p xs) (fv : FR K H2 v q b) (np : H2 p = none) :
    ∃ acc, (upd H2 p (.tup [.str s, v])) D = some (.lst acc) ∧ acc.length < sizeLine ∧ DTab K (upd (upd H2 p (.tup [.str s, v])) D (.lst (acc ++ [.ref p]))) D ss (i + 1) (qs ++ [q]) b := by
  obtain ⟨pas, vs, hD, l1, l2, hF, hP⟩ := h
  have sp := Same.new (o := .tup [.str s, v]) np
  have hD2 := sp _ _ (fD _ hD)
  refine ⟨_, hD2, by rw [List.length_map, l1]; exact szl (by omega), pas ++ [p], vs ++ [v], by rw [upd_same, List.map_append]; rfl, by rw [List.length_append, l1]; rfl, by rw [List.length_append, l2]; rfl, ?_, ?_⟩
  · exact FRs.snoc ⟨hF.1, fun j x f a c => by
      rw [List.getElem?_map] at c
      cases e : qs[j]? with
      | none => rw [e] at c; cases c
      | some q => rw [e] at c; cases c; exact FR.put (FR.same ⟨(by obtain ⟨a', e', z⟩ := (hF.at a e).fr; exact ⟨a', e', fT _ _ z⟩), (hF.at a e).d0, (hF.at a e).g, (hF.at a e).nB, (hF.at a e).dB⟩ sp) hD2⟩ ((fv.same sp).put hD2)
  · intro j p' s' v' e1 e2 e3
    by_cases hj : j < i
    · rw [List.getElem?_append_left (by omega)] at e1 e3
      exact SqT.put (Same.T sp (fT _ _ (hP j p' s' v' e1 e2 e3))) hD2
    · have ej : j = i := by
        have := (List.getElem?_eq_some_iff.mp e1).1
        rw [List.length_append, l1] at this
        have : j < i + 1 := this
        omega
      subst ej
      rw [List.getElem?_append_right (by omega), l1, Nat.sub_self] at e1
      rw [List.getElem?_append_right (by omega), l2, Nat.sub_self] at e3
      cases e1; cases e3
      rw [hs] at e2; cases e2
      exact SqT.put (SqT.of upd_same) hD2
def kvz (ss : List Str) (vs : List V) : List (Key × V) := (ss.zip vs).map fun z => (Sum.inr z.1, z.2)
theorem paired_of {K : PySem.W.Frag} {H : Hp} : ∀ {pas : List Addr} {ss : List Str} {vs : List V}, pas.length = ss.length → vs.length = ss.length → (∀ (j : Nat) p s v, pas[j]? = some p → ss[j]? = some s → vs[j]? = some v → SqT K H p [.str s, v]) → Paired (fun p kv => SqT K H p [kV kv.1, kv.2]) pas (kvz ss vs)
  | [], [], [], _, _, _ => .nil
  | p :: pas, s :: ss, v :: vs, l1, l2, h => .cons (h 0 p s v rfl rfl rfl) (paired_of (by simpa using l1) (by simpa using l2) fun j p' s' v' e1 e2 e3 => h (j + 1) p' s' v' e1 e2 e3)
  | [], _ :: _, _, l1, _, _ => by cases l1
  | _ :: _, [], _, l1, _, _ => by cases l1
  | [], [], _ :: _, _, l2, _ => by cases l2
  | _ :: _, _ :: _, [], _, l2, _ => by cases l2
theorem merge_old : ∀ (l acc : List (Key × V)) (k : Key), (∀ z ∈ l, z.1 ≠ k) → valV (mergeK acc l) k = valV acc k
  | [], _, _, _ => rfl
  | z :: l, acc, k, h => by
    show valV (mergeK (putK acc z.1 z.2) l) k = _
    rw [merge_old l _ k fun y hy => h y (List.mem_cons_of_mem _ hy), valV_put, if_neg fun e => h z List.mem_cons_self e.symm]
theorem merge_at : ∀ {ss : List Str} {vs : List V} {acc : List (Key × V)} {j : Nat} {s : Str} {v : V}, ss.Nodup → ss[j]? = some s → vs[j]? = some v → valV (mergeK acc (kvz ss vs)) (Sum.inr s : Key) = some v
  | [], _, _, _, _, _, _, h, _ => by cases h
  | _ :: _, [], _, _, _, _, _, _, h => by cases h
  | x :: ss, y :: vs, acc, 0, s, v, nd, h1, h2 => by
    cases h1; cases h2
    show valV (mergeK (putK acc (Sum.inr x) y) (kvz ss vs)) _ = _
    rw [merge_old, valV_put, if_pos rfl]
    intro z hz e
    obtain ⟨w, hw, rfl⟩ := List.mem_map.mp hz
    have := (List.of_mem_zip hw).1
    exact (List.nodup_cons.mp nd).1 (Sum.inr.inj e ▸ this)
  | x :: ss, y :: vs, acc, j + 1, s, v, nd, h1, h2 => by
    show valV (mergeK (putK acc (Sum.inr x) y) (kvz ss vs)) _ = _
    exact merge_at (List.nodup_cons.mp nd).2 h1 h2
theorem ex_asg : ∀ {ss : List Str} {qs : List Rat}, ss.Nodup → ∃ ρ : Str → Rat, ∀ (j : Nat) s q, ss[j]? = some s → qs[j]? = some q → ρ s = q
  | [], _, _ => ⟨fun _ => 0, fun j s q h => by cases h⟩
  | x :: ss, [], _ => ⟨fun _ => 0, fun j s q _ h => by cases h⟩
  | x :: ss, y :: qs, nd => by
    obtain ⟨ρ, h⟩ := ex_asg (ss := ss) (qs := qs) (List.nodup_cons.mp nd).2
    refine ⟨fun z => if z = x then y else ρ z, fun j s q h1 h2 => ?_⟩
    cases j with
    | zero => cases h1; cases h2; exact if_pos rfl
    | succ j =>
      have hne : s ≠ x := fun e => (List.nodup_cons.mp nd).1 (e ▸ List.mem_of_getElem? h1)
      show (if s = x then y else ρ s) = q
      rw [if_neg hne]
      exact h j s q h1 h2
/-- dict(..) of the pairs -/
theorem DTab.done {K : PySem.W.Frag} {H : Hp} {D : Addr} {ss : List Str} {qs : List Rat} {b : Nat} (h : DTab K H D ss ss.length qs b) (nd : ss.Nodup) {ρ : Str → Rat} (hρ : ∀ (j : Nat) s q, ss[j]? = some s → qs[j]? = some q → ρ s = q) :
    ∃ (ps : List Addr) (kvs : List (Key × V)), SqL K H D (ps.map V.ref) ∧ Paired (fun p kv => SqT K H p [kV kv.1, kv.2]) ps kvs ∧ ∀ d, H d = none → Tbl K (upd H d (.dK (mergeK [] kvs))) d ρ ss b := by
  obtain ⟨pas, vs, hD, l1, l2, hF, hP⟩ := h
  refine ⟨pas, kvz ss vs, SqL.of hD, paired_of l1 l2 hP, fun d nd' => ⟨_, upd_same, fun s hs => ?_⟩⟩
  obtain ⟨j, hj, e⟩ := List.getElem_of_mem hs
  have hs' : ss[j]? = some s := by rw [List.getElem?_eq_getElem hj, e]
  have hv : vs[j]? = some (vs[j]'(by omega)) := List.getElem?_eq_getElem _
  obtain ⟨q, hq, fq⟩ := hF.get hv
  refine ⟨_, merge_at nd hs' hv, ?_⟩
  rw [hρ j s q hs' hq]
  exact fq.same (Same.new nd')
theorem sum_more {qs : List Rat} {s : Rat} {i : Nat} {q : Rat} (h : qs[i]? = some q) : (qs.take (i + 1)).foldl (· + ·) s = (qs.take i).foldl (· + ·) s + q := by
  rw [List.take_add_one, h, List.foldl_append]
  rfl
theorem ded_mem {l : List Str} {x : Str} : x ∈ ded l ↔ x ∈ l := by
  unfold ded
  rw [fold_mem]
  simp
theorem strs_at {l : List Str} {i : Nat} {x : V} (h : (l.map V.str)[i]? = some x) : ∃ s, l[i]? = some s ∧ x = .str s := by
  rw [List.getElem?_map] at h
  cases e : l[i]? with
  | none => rw [e] at h; cases h
  | some q => rw [e] at h; exact ⟨q, rfl, (Option.some.inj h).symm⟩
theorem med3_in (x y z : Rat) : med3 x y z = x ∨ med3 x y z = y ∨ med3 x y z = z := by
  unfold med3
  simp only [Rat.max_def, Rat.min_def]
  grind
theorem med3_sum (x y z : Rat) : (0 + x + y + z) - (lmin [x, y, z] + lmax [x, y, z]) = med3 x y z := by
  show (0 + x + y + z) - (min x (min y z) + max x (max y z)) = med3 x y z
  unfold med3
  simp only [Rat.max_def, Rat.min_def]
  grind
theorem ofR_bt {q : Rat} {B : Nat} {K : PySem.W.Frag} {H : Hp} {v : V} {C : Nat} (f : FR K H v q B) (b : Bt q C) : FR K H v q C := FR.mk f.fr b
/-! ### tables that may lack names -/
def TabX (K : PySem.W.Frag) (H : Hp) (d : Addr) (kvs : List (Key × V)) (ρ : Str → Rat) (b : Nat) : Prop := H d = some (.dK kvs) ∧ ∀ (s : Str) v, valV kvs (Sum.inr s : Key) = some v → FR K H v (ρ s) b
theorem TabX.same {K : PySem.W.Frag} {H H' : Hp} {d : Addr} {kvs : List (Key × V)} {ρ : Str → Rat} {b : Nat} (h : TabX K H d kvs ρ b) (s : Same H H') : TabX K H' d kvs ρ b := ⟨s _ _ h.1, fun x v e => (h.2 x v e).same s⟩
theorem TabX.kp {K : PySem.W.Frag} {H H' : Hp} {r d : Addr} {kvs : List (Key × V)} {ρ : Str → Rat} {b : Nat} (h : TabX K H d kvs ρ b) (R : Rg H r) (k : Kp r H H') : TabX K H' d kvs ρ b := by
  have dr : d ≠ r := by
    obtain ⟨c, ns, i, x, kk, R⟩ := R
    exact ne_of h.1 R.hr fun z => by cases z
  exact ⟨k.1 _ _ dr h.1, fun x v e => (h.2 x v e).kp R k⟩
def missing (kvs : List (Key × V)) (t : Tm) : List Str := (ded t.flat).filter fun s => (valV kvs (Sum.inr s : Key)).isNone
theorem TabX.tbl {K : PySem.W.Frag} {H : Hp} {d : Addr} {kvs : List (Key × V)} {ρ : Str → Rat} {b : Nat} {t : Tm} (h : TabX K H d kvs ρ b) (m : missing kvs t = []) : Tbl K H d ρ t.flat b := by
  refine ⟨kvs, h.1, fun s hs => ?_⟩
  cases e : valV kvs (Sum.inr s : Key) with
  | some v => exact ⟨v, rfl, h.2 s v e⟩
  | none =>
    exfalso
    have : s ∈ missing kvs t := List.mem_filter.mpr ⟨ded_mem.mpr hs, by rw [e]; rfl⟩
    rw [m] at this
    cases this
theorem TabX.dget {K : PySem.W.Frag} {H : Hp} {d : Addr} {kvs : List (Key × V)} {ρ : Str → Rat} {b : Nat} {s : Str} (h : TabX K H d kvs ρ b) : DGet H d (.str s) (valV kvs (Sum.inr s : Key)) := DGet.k (k := Sum.inr s) h.1
theorem Tbl.full {K : PySem.W.Frag} {H : Hp} {d : Addr} {ρ : Str → Rat} {t : Tm} {b : Nat} (h : Tbl K H d ρ t.flat b) : ∃ kvs, H d = some (.dK kvs) ∧ missing kvs t = [] ∧ ∀ s ∈ t.flat, ∃ v, valV kvs (Sum.inr s : Key) = some v ∧ FR K H v (ρ s) b := by
  obtain ⟨kvs, e, z⟩ := h
  refine ⟨kvs, e, ?_, z⟩
  unfold missing
  rw [List.filter_eq_nil_iff]
  intro s hs
  obtain ⟨v, hv, _⟩ := z s (ded_mem.mp hs)
  rw [hv]
  simp
theorem DTab.ext {K : PySem.W.Frag} {H : Hp} {D : Addr} {ss us : List Str} {qs : List Rat} {b : Nat} (h : DTab K H D ss ss.length qs b) : DTab K H D (ss ++ us) ss.length qs b := by
  obtain ⟨pas, vs, hD, l1, l2, hF, hP⟩ := h
  refine ⟨pas, vs, hD, l1, l2, hF, fun j p s v e1 e2 e3 => hP j p s v e1 ?_ e3⟩
  have jl : j < pas.length := (List.getElem?_eq_some_iff.mp e1).1
  rw [List.getElem?_append_left (by omega)] at e2
  exact e2
theorem put_nd {kvs : List (Key × V)} {k : Key} {v : V} (h : (kvs.map (·.1)).Nodup) : ((putK kvs k v).map (·.1)).Nodup := by
  cases e : valV kvs k with
  | none => exact nd_putK v h e
  | some y =>
    unfold putK
    have : (kvs.any fun kv => decide (kv.1 = k)) = true := by rw [valV_any, e]; rfl
    rw [if_pos this, List.map_map]
    have e2 : (fun kv : Key × V => (if kv.1 = k then (kv.1, v) else kv).1) = fun kv => kv.1 := by
      funext kv
      split <;> rfl
    exact (show (kvs.map fun kv => (if kv.1 = k then (kv.1, v) else kv).1).Nodup by rw [e2]; exact h)
theorem merge_nd : ∀ (l acc : List (Key × V)), (acc.map (·.1)).Nodup → ((mergeK acc l).map (·.1)).Nodup
  | [], _, h => h
  | z :: l, acc, h => merge_nd l (putK acc z.1 z.2) (put_nd h)
theorem DTab.doneX {K : PySem.W.Frag} {H : Hp} {D : Addr} {ss : List Str} {qs : List Rat} {b : Nat} (h : DTab K H D ss ss.length qs b) (nd : ss.Nodup) {ρ : Str → Rat} (hρ : ∀ (j : Nat) s q, ss[j]? = some s → qs[j]? = some q → ρ s = q) :
    ∃ (ps : List Addr) (kvs : List (Key × V)), SqL K H D (ps.map V.ref) ∧ Paired (fun p kv => SqT K H p [kV kv.1, kv.2]) ps kvs ∧ (∀ k, ∀ v, valV (mergeK [] kvs) k = some v → ∃ c, v = V.ref c) ∧ ((mergeK [] kvs).map (·.1)).Nodup ∧ ∀ d, H d = none → TabX K (upd H d (.dK (mergeK [] kvs))) d (mergeK [] kvs) ρ b := by
  obtain ⟨pas, vs, hD, l1, l2, hF, hP⟩ := h
  have key : ∀ k v, valV (mergeK [] (kvz ss vs)) k = some v → ∃ (j : Nat) (s : Str), ss[j]? = some s ∧ vs[j]? = some v ∧ k = Sum.inr s := by
    intro k v e
    by_cases hk : ∃ s ∈ ss, k = Sum.inr s
    · obtain ⟨s, hs, rfl⟩ := hk
      obtain ⟨j, hj, ej⟩ := List.getElem_of_mem hs
      have hs' : ss[j]? = some s := by rw [List.getElem?_eq_getElem hj, ej]
      have hv : vs[j]? = some (vs[j]'(by omega)) := List.getElem?_eq_getElem _
      rw [merge_at nd hs' hv] at e
      cases e
      exact ⟨j, s, hs', hv, rfl⟩
    · rw [merge_old _ _ _ fun z hz e2 => ?_] at e
      · cases e
      · obtain ⟨y, hy, rfl⟩ := List.mem_map.mp hz
        exact hk ⟨y.1, (List.of_mem_zip hy).1, e2.symm⟩
  refine ⟨pas, kvz ss vs, SqL.of hD, paired_of l1 l2 hP, fun k v e => ?_, merge_nd _ _ List.nodup_nil, fun d nd' => ⟨upd_same, fun s v e => ?_⟩⟩
  · obtain ⟨j, s, hs, hv, _⟩ := key k v e
    obtain ⟨q, hq, fq⟩ := hF.get hv
    obtain ⟨c, ec, _⟩ := fq.fr
    exact ⟨c, ec⟩
  · obtain ⟨j, s', hs, hv, es⟩ := key _ v e
    cases es
    obtain ⟨q, hq, fq⟩ := hF.get hv
    rw [hρ j s q hs hq]
    exact fq.same (Same.new nd')
theorem All2.cons1 {R : V → Tm → Prop} {x : V} {t : Tm} {xs : List V} {ts : List Tm} (k : R x t) (h : All2 R xs ts) : All2 R (x :: xs) (t :: ts) :=
  ⟨by rw [List.length_cons, List.length_cons, h.1], fun i y u a b => by
    cases i with
    | zero => cases a; cases b; exact k
    | succ i => exact h.2 i y u a b⟩
theorem all2_ex {R : V → Tm → Prop} {G : Tm → Prop} : ∀ {ys : List V}, (∀ y ∈ ys, ∃ t, R y t ∧ G t) → ∃ ts, All2 R ys ts ∧ ∀ t ∈ ts, G t
  | [], _ => ⟨[], All2.nil, fun t h => by cases h⟩
  | y :: ys, h => by
    obtain ⟨t, r, g⟩ := h y List.mem_cons_self
    obtain ⟨ts, a, b⟩ := all2_ex (ys := ys) fun z hz => h z (List.mem_cons_of_mem _ hz)
    refine ⟨t :: ts, All2.cons1 r a, fun u hu => ?_⟩
    rcases List.mem_cons.mp hu with e | e
    · rw [e]; exact g
    · exact b u e
theorem All2.ex {R : V → Tm → Prop} {G : Tm → Prop} {xs : List V} {ts : List Tm} (h : All2 R xs ts) (g : ∀ t ∈ ts, G t) : ∀ x ∈ xs, ∃ t, R x t ∧ G t := fun x hx => by
  obtain ⟨i, hi, e⟩ := List.getElem_of_mem hx
  obtain ⟨t, ht, r⟩ := h.at (i := i) (x := x) (by rw [List.getElem?_eq_getElem hi, e])
  exact ⟨t, r, g t (List.mem_of_getElem? ht)⟩
/-- a term of the law, wide or not -/
structure FitT (K : PySem.W.Frag) (H : Hp) (ss : List Str) (v : V) (t : Tm) : Prop where
  at' : TmAt K H 12 v t
  vok : VOk 12 t
  fin : ∀ s ∈ t.flat, s ∈ ss
  bt : t.bt 40 ≤ 2705
  size : t.size ≤ 40
theorem flats_in {ss : List Str} : ∀ {n : Nat} {t : Tm}, Good ss n t → ∀ s ∈ t.flat, s ∈ ss
  | 0, _, h => h.elim
  | n + 1, .ev s, h => fun x hx => by rw [Tm.flat] at hx; rw [List.mem_singleton.mp hx]; exact h
  | n + 1, .nd k ts, h => fun x hx => by
    rw [Tm.flat] at hx
    have go : ∀ us : List Tm, (∀ u ∈ us, ∀ s ∈ u.flat, s ∈ ss) → ∀ x ∈ Tm.flats us, x ∈ ss := by
      intro us
      induction us with
      | nil => intro _ x hx; rw [Tm.flats] at hx; cases hx
      | cons u us ih =>
        intro hh x hx
        rw [Tm.flats] at hx
        rcases List.mem_append.mp hx with z | z
        · exact hh u List.mem_cons_self x z
        · exact ih (fun v hv => hh v (List.mem_cons_of_mem _ hv)) x z
    exact go ts (fun u hu => flats_in (h.2 u hu)) x hx

def topS (i : Nat) : Stmt := PySem.Challenge.pw_gaithold_k10_whole_terms_are_monotone_an.main.body.getD i (.Pass ⟨0, 0, 0, 0⟩)
abbrev s_p_greatest_divisor : Stmt := topS 6
theorem sc_p_greatest_divisor : FnScope ["one", "other"] ["one", "other"] (defScope s_p_greatest_divisor) := ⟨rfl, rfl, rfl, by decide +kernel, rfl, by decide +kernel, by decide +kernel⟩
abbrev s_p_fraction : Stmt := topS 7
theorem sc_p_fraction : FnScope ["num", "den", "divisor"] ["num", "den"] (defScope s_p_fraction) := ⟨rfl, rfl, rfl, by decide +kernel, rfl, by decide +kernel, by decide +kernel⟩
abbrev s_p_add : Stmt := topS 8
theorem sc_p_add : FnScope ["one", "other"] ["one", "other"] (defScope s_p_add) := ⟨rfl, rfl, rfl, by decide +kernel, rfl, by decide +kernel, by decide +kernel⟩
abbrev s_p_multiply : Stmt := topS 9
theorem sc_p_multiply : FnScope ["one", "other"] ["one", "other"] (defScope s_p_multiply) := ⟨rfl, rfl, rfl, by decide +kernel, rfl, by decide +kernel, by decide +kernel⟩
abbrev s_p_is_less : Stmt := topS 10
theorem sc_p_is_less : FnScope ["one", "other"] ["one", "other"] (defScope s_p_is_less) := ⟨rfl, rfl, rfl, by decide +kernel, rfl, by decide +kernel, by decide +kernel⟩
abbrev s_p_total : Stmt := topS 11
theorem sc_p_total : FnScope ["row", "start", "result", "one"] ["row", "start"] (defScope s_p_total) := ⟨rfl, rfl, rfl, by decide +kernel, rfl, by decide +kernel, by decide +kernel⟩
abbrev s_p_index_of_max : Stmt := topS 12
theorem sc_p_index_of_max : FnScope ["row", "best", "at", "one"] ["row"] (defScope s_p_index_of_max) := ⟨rfl, rfl, rfl, by decide +kernel, rfl, by decide +kernel, by decide +kernel⟩
abbrev s_p_index_of_min : Stmt := topS 13
theorem sc_p_index_of_min : FnScope ["row", "best", "at", "one"] ["row"] (defScope s_p_index_of_min) := ⟨rfl, rfl, rfl, by decide +kernel, rfl, by decide +kernel, by decide +kernel⟩
abbrev s_p_subterms : Stmt := topS 15
theorem sc_p_subterms : FnScope ["term", "kind", "pair"] ["term"] (defScope s_p_subterms) := ⟨rfl, rfl, rfl, by decide +kernel, rfl, by decide +kernel, by decide +kernel⟩
abbrev s_p_event_names : Stmt := topS 16
theorem sc_p_event_names : FnScope ["term", "names", "part", "name"] ["term"] (defScope s_p_event_names) := ⟨rfl, rfl, rfl, by decide +kernel, rfl, by decide +kernel, by decide +kernel⟩
abbrev s_p_median_of : Stmt := topS 17
theorem sc_p_median_of : FnScope ["values", "top", "rest"] ["values"] (defScope s_p_median_of) := ⟨rfl, rfl, rfl, by decide +kernel, rfl, by decide +kernel, by decide +kernel⟩
abbrev s_p_value_of : Stmt := topS 18
theorem sc_p_value_of : FnScope ["term", "table", "kind", "values", "part", "pair", "value"] ["term", "table"] (defScope s_p_value_of) := ⟨rfl, rfl, rfl, by decide +kernel, rfl, by decide +kernel, by decide +kernel⟩
abbrev s_p_check_names : Stmt := topS 19
theorem sc_p_check_names : FnScope ["term", "known", "name"] ["term", "known"] (defScope s_p_check_names) := ⟨rfl, rfl, rfl, by decide +kernel, rfl, by decide +kernel, by decide +kernel⟩
abbrev s_p_evaluate : Stmt := topS 20
theorem sc_p_evaluate : FnScope ["term", "table"] ["term", "table"] (defScope s_p_evaluate) := ⟨rfl, rfl, rfl, by decide +kernel, rfl, by decide +kernel, by decide +kernel⟩
abbrev s_l_source : Stmt := topS 22
theorem sc_l_source : FnScope ["_law_script", "_law_knot", "_law_cell"] ["_law_script"] (defScope s_l_source) := ⟨rfl, rfl, rfl, by decide +kernel, rfl, by decide +kernel, by decide +kernel⟩
abbrev s_l_draw : Stmt := topS 23
theorem sc_l_draw : FnScope ["_law_rng", "_law_quantity", "_law_cell", "_law_got", "_law_seed"] ["_law_rng", "_law_quantity"] (defScope s_l_draw) := ⟨rfl, rfl, rfl, by decide +kernel, rfl, by decide +kernel, by decide +kernel⟩
abbrev s_l_choice : Stmt := topS 24
theorem sc_l_choice : FnScope ["_law_rng", "_law_some"] ["_law_rng", "_law_some"] (defScope s_l_choice) := ⟨rfl, rfl, rfl, by decide +kernel, rfl, by decide +kernel, by decide +kernel⟩
abbrev s_l_reduce : Stmt := topS 25
theorem sc_l_reduce : FnScope ["_law_num", "_law_den", "_law_one", "_law_other", "_law_sign"] ["_law_num", "_law_den"] (defScope s_l_reduce) := ⟨rfl, rfl, rfl, by decide +kernel, rfl, by decide +kernel, by decide +kernel⟩
abbrev s_l_add : Stmt := topS 26
theorem sc_l_add : FnScope ["_law_one", "_law_other"] ["_law_one", "_law_other"] (defScope s_l_add) := ⟨rfl, rfl, rfl, by decide +kernel, rfl, by decide +kernel, by decide +kernel⟩
abbrev s_l_subtract : Stmt := topS 27
theorem sc_l_subtract : FnScope ["_law_one", "_law_other"] ["_law_one", "_law_other"] (defScope s_l_subtract) := ⟨rfl, rfl, rfl, by decide +kernel, rfl, by decide +kernel, by decide +kernel⟩
abbrev s_l_is_less : Stmt := topS 28
theorem sc_l_is_less : FnScope ["_law_one", "_law_other"] ["_law_one", "_law_other"] (defScope s_l_is_less) := ⟨rfl, rfl, rfl, by decide +kernel, rfl, by decide +kernel, by decide +kernel⟩
abbrev s_l_maximum : Stmt := topS 29
theorem sc_l_maximum : FnScope ["_law_some", "_law_result", "_law_one"] ["_law_some"] (defScope s_l_maximum) := ⟨rfl, rfl, rfl, by decide +kernel, rfl, by decide +kernel, by decide +kernel⟩
abbrev s_l_abs : Stmt := topS 30
theorem sc_l_abs : FnScope ["_law_one"] ["_law_one"] (defScope s_l_abs) := ⟨rfl, rfl, rfl, by decide +kernel, rfl, by decide +kernel, by decide +kernel⟩
abbrev s_l_small : Stmt := topS 31
theorem sc_l_small : FnScope ["_law_rng"] ["_law_rng"] (defScope s_l_small) := ⟨rfl, rfl, rfl, by decide +kernel, rfl, by decide +kernel, by decide +kernel⟩
abbrev s_l_wide : Stmt := topS 32
theorem sc_l_wide : FnScope ["_law_rng", "_law_wide_here"] ["_law_rng"] (defScope s_l_wide) := ⟨rfl, rfl, rfl, by decide +kernel, rfl, by decide +kernel, by decide +kernel⟩
abbrev s_l_letters : Stmt := topS 33
theorem sc_l_letters : FnScope [] [] (defScope s_l_letters) := ⟨rfl, rfl, rfl, by decide +kernel, rfl, by decide +kernel, by decide +kernel⟩
abbrev s_l_is_name : Stmt := topS 34
theorem sc_l_is_name : FnScope ["_law_text", "_law_sign"] ["_law_text"] (defScope s_l_is_name) := ⟨rfl, rfl, rfl, by decide +kernel, rfl, by decide +kernel, by decide +kernel⟩
abbrev s_l_plain : Stmt := topS 35
theorem sc_l_plain : FnScope ["_law_names_here", "_law_name"] ["_law_names_here"] (defScope s_l_plain) := ⟨rfl, rfl, rfl, by decide +kernel, rfl, by decide +kernel, by decide +kernel⟩
abbrev s_l_names : Stmt := topS 36
theorem sc_l_names : FnScope ["_law_rng", "_law_quantity", "_law_abc", "_law_width", "_law_pos", "_law_lead", "_law_step", "_law_base", "_law_result", "_law_k", "_law_sign", "_law_name", "_law_cut", "_law_spare"] ["_law_rng", "_law_quantity"] (defScope s_l_names) := ⟨rfl, rfl, rfl, by decide +kernel, rfl, by decide +kernel, by decide +kernel⟩
abbrev s_l_shares : Stmt := topS 37
theorem sc_l_shares : FnScope ["_law_rng", "_law_quantity", "_law_weights", "_law_k", "_law_one"] ["_law_rng", "_law_quantity"] (defScope s_l_shares) := ⟨rfl, rfl, rfl, by decide +kernel, rfl, by decide +kernel, by decide +kernel⟩
abbrev s_l_term : Stmt := topS 38
theorem sc_l_term : FnScope ["_law_rng", "_law_names_here", "_law_deep", "_law_pick", "_law_quantity", "_law_parts", "_law_k", "_law_share", "_law_one"] ["_law_rng", "_law_names_here", "_law_deep"] (defScope s_l_term) := ⟨rfl, rfl, rfl, by decide +kernel, rfl, by decide +kernel, by decide +kernel⟩
abbrev s_l_distance : Stmt := topS 39
theorem sc_l_distance : FnScope ["_law_one", "_law_other", "_law_x", "_law_y"] ["_law_one", "_law_other"] (defScope s_l_distance) := ⟨rfl, rfl, rfl, by decide +kernel, rfl, by decide +kernel, by decide +kernel⟩
abbrev s_p_law : Stmt := topS 40
theorem sc_p_law : FnScope ["_law_script", "_law_rng", "_law_turn", "_law_names_here", "_law_term_here", "_law_x", "_law_amount", "_law_y", "_law_one", "_law_other", "_law_far", "_law_late", "_law_name"] ["_law_script"] (defScope s_p_law) := ⟨rfl, rfl, rfl, by decide +kernel, rfl, by decide +kernel, by decide +kernel⟩
structure Ad where
  f_p_greatest_divisor : Addr
  fd_p_greatest_divisor : FuncData
  f_p_fraction : Addr
  fd_p_fraction : FuncData
  f_p_add : Addr
  fd_p_add : FuncData
  f_p_multiply : Addr
  fd_p_multiply : FuncData
  f_p_is_less : Addr
  fd_p_is_less : FuncData
  f_p_total : Addr
  fd_p_total : FuncData
  f_p_index_of_max : Addr
  fd_p_index_of_max : FuncData
  f_p_index_of_min : Addr
  fd_p_index_of_min : FuncData
  f_p_subterms : Addr
  fd_p_subterms : FuncData
  f_p_event_names : Addr
  fd_p_event_names : FuncData
  f_p_median_of : Addr
  fd_p_median_of : FuncData
  f_p_value_of : Addr
  fd_p_value_of : FuncData
  f_p_check_names : Addr
  fd_p_check_names : FuncData
  f_p_evaluate : Addr
  fd_p_evaluate : FuncData
  f_l_source : Addr
  fd_l_source : FuncData
  f_l_draw : Addr
  fd_l_draw : FuncData
  f_l_choice : Addr
  fd_l_choice : FuncData
  f_l_reduce : Addr
  fd_l_reduce : FuncData
  f_l_add : Addr
  fd_l_add : FuncData
  f_l_subtract : Addr
  fd_l_subtract : FuncData
  f_l_is_less : Addr
  fd_l_is_less : FuncData
  f_l_maximum : Addr
  fd_l_maximum : FuncData
  f_l_abs : Addr
  fd_l_abs : FuncData
  f_l_small : Addr
  fd_l_small : FuncData
  f_l_wide : Addr
  fd_l_wide : FuncData
  f_l_letters : Addr
  fd_l_letters : FuncData
  f_l_is_name : Addr
  fd_l_is_name : FuncData
  f_l_plain : Addr
  fd_l_plain : FuncData
  f_l_names : Addr
  fd_l_names : FuncData
  f_l_shares : Addr
  fd_l_shares : FuncData
  f_l_term : Addr
  fd_l_term : FuncData
  f_l_distance : Addr
  fd_l_distance : FuncData
  f_p_law : Addr
  fd_p_law : FuncData
  o_ZERO : Addr
structure Txt (K : PySem.W.Frag) (mg : Str → Option Value) (a : Ad) : Prop where
  g_p_greatest_divisor : mg "greatest_divisor" = some (.ref a.f_p_greatest_divisor)
  F_p_greatest_divisor : Fun K "greatest_divisor" "greatest_divisor" s_p_greatest_divisor a.f_p_greatest_divisor a.fd_p_greatest_divisor
  b_p_greatest_divisor : Binds K a.fd_p_greatest_divisor ["one", "other"] []
  g_p_fraction : mg "fraction" = some (.ref a.f_p_fraction)
  F_p_fraction : FunD K "fraction" "fraction" (defArgs s_p_fraction) (defBody s_p_fraction) (defScope s_p_fraction) [(.int 1)] [] a.f_p_fraction a.fd_p_fraction
  b_p_fraction_2 : ∃ ds, Vals [] ds ∧ Binds K a.fd_p_fraction ["num", "den"] ds
  g_p_add : mg "add" = some (.ref a.f_p_add)
  F_p_add : Fun K "add" "add" s_p_add a.f_p_add a.fd_p_add
  b_p_add : Binds K a.fd_p_add ["one", "other"] []
  g_p_multiply : mg "multiply" = some (.ref a.f_p_multiply)
  F_p_multiply : Fun K "multiply" "multiply" s_p_multiply a.f_p_multiply a.fd_p_multiply
  b_p_multiply : Binds K a.fd_p_multiply ["one", "other"] []
  g_p_is_less : mg "is_less" = some (.ref a.f_p_is_less)
  F_p_is_less : Fun K "is_less" "is_less" s_p_is_less a.f_p_is_less a.fd_p_is_less
  b_p_is_less : Binds K a.fd_p_is_less ["one", "other"] []
  g_p_total : mg "total" = some (.ref a.f_p_total)
  F_p_total : FunD K "total" "total" (defArgs s_p_total) (defBody s_p_total) (defScope s_p_total) [] [("start", (.ref a.o_ZERO))] a.f_p_total a.fd_p_total
  b_p_total_1 : ∃ ds, Vals [(.ref a.o_ZERO)] ds ∧ Binds K a.fd_p_total ["row", "start"] ds
  g_p_index_of_max : mg "index_of_max" = some (.ref a.f_p_index_of_max)
  F_p_index_of_max : Fun K "index_of_max" "index_of_max" s_p_index_of_max a.f_p_index_of_max a.fd_p_index_of_max
  b_p_index_of_max : Binds K a.fd_p_index_of_max ["row"] []
  g_p_index_of_min : mg "index_of_min" = some (.ref a.f_p_index_of_min)
  F_p_index_of_min : Fun K "index_of_min" "index_of_min" s_p_index_of_min a.f_p_index_of_min a.fd_p_index_of_min
  b_p_index_of_min : Binds K a.fd_p_index_of_min ["row"] []
  g_p_subterms : mg "subterms" = some (.ref a.f_p_subterms)
  F_p_subterms : Fun K "subterms" "subterms" s_p_subterms a.f_p_subterms a.fd_p_subterms
  b_p_subterms : Binds K a.fd_p_subterms ["term"] []
  g_p_event_names : mg "event_names" = some (.ref a.f_p_event_names)
  F_p_event_names : Fun K "event_names" "event_names" s_p_event_names a.f_p_event_names a.fd_p_event_names
  b_p_event_names : Binds K a.fd_p_event_names ["term"] []
  g_p_median_of : mg "median_of" = some (.ref a.f_p_median_of)
  F_p_median_of : Fun K "median_of" "median_of" s_p_median_of a.f_p_median_of a.fd_p_median_of
  b_p_median_of : Binds K a.fd_p_median_of ["values"] []
  g_p_value_of : mg "value_of" = some (.ref a.f_p_value_of)
  F_p_value_of : Fun K "value_of" "value_of" s_p_value_of a.f_p_value_of a.fd_p_value_of
  b_p_value_of : Binds K a.fd_p_value_of ["term", "table"] []
  g_p_check_names : mg "check_names" = some (.ref a.f_p_check_names)
  F_p_check_names : Fun K "check_names" "check_names" s_p_check_names a.f_p_check_names a.fd_p_check_names
  b_p_check_names : Binds K a.fd_p_check_names ["term", "known"] []
  g_p_evaluate : mg "evaluate" = some (.ref a.f_p_evaluate)
  F_p_evaluate : Fun K "evaluate" "evaluate" s_p_evaluate a.f_p_evaluate a.fd_p_evaluate
  b_p_evaluate : Binds K a.fd_p_evaluate ["term", "table"] []
  g_l_source : mg "_law_source" = some (.ref a.f_l_source)
  F_l_source : Fun K "_law_source" "_law_source" s_l_source a.f_l_source a.fd_l_source
  b_l_source : Binds K a.fd_l_source ["_law_script"] []
  g_l_draw : mg "_law_draw" = some (.ref a.f_l_draw)
  F_l_draw : Fun K "_law_draw" "_law_draw" s_l_draw a.f_l_draw a.fd_l_draw
  b_l_draw : Binds K a.fd_l_draw ["_law_rng", "_law_quantity"] []
  g_l_choice : mg "_law_choice" = some (.ref a.f_l_choice)
  F_l_choice : Fun K "_law_choice" "_law_choice" s_l_choice a.f_l_choice a.fd_l_choice
  b_l_choice : Binds K a.fd_l_choice ["_law_rng", "_law_some"] []
  g_l_reduce : mg "_law_reduce" = some (.ref a.f_l_reduce)
  F_l_reduce : Fun K "_law_reduce" "_law_reduce" s_l_reduce a.f_l_reduce a.fd_l_reduce
  b_l_reduce : Binds K a.fd_l_reduce ["_law_num", "_law_den"] []
  g_l_add : mg "_law_add" = some (.ref a.f_l_add)
  F_l_add : Fun K "_law_add" "_law_add" s_l_add a.f_l_add a.fd_l_add
  b_l_add : Binds K a.fd_l_add ["_law_one", "_law_other"] []
  g_l_subtract : mg "_law_subtract" = some (.ref a.f_l_subtract)
  F_l_subtract : Fun K "_law_subtract" "_law_subtract" s_l_subtract a.f_l_subtract a.fd_l_subtract
  b_l_subtract : Binds K a.fd_l_subtract ["_law_one", "_law_other"] []
  g_l_is_less : mg "_law_is_less" = some (.ref a.f_l_is_less)
  F_l_is_less : Fun K "_law_is_less" "_law_is_less" s_l_is_less a.f_l_is_less a.fd_l_is_less
  b_l_is_less : Binds K a.fd_l_is_less ["_law_one", "_law_other"] []
  g_l_maximum : mg "_law_maximum" = some (.ref a.f_l_maximum)
  F_l_maximum : Fun K "_law_maximum" "_law_maximum" s_l_maximum a.f_l_maximum a.fd_l_maximum
  b_l_maximum : Binds K a.fd_l_maximum ["_law_some"] []
  g_l_abs : mg "_law_abs" = some (.ref a.f_l_abs)
  F_l_abs : Fun K "_law_abs" "_law_abs" s_l_abs a.f_l_abs a.fd_l_abs
  b_l_abs : Binds K a.fd_l_abs ["_law_one"] []
  g_l_small : mg "_law_small" = some (.ref a.f_l_small)
  F_l_small : Fun K "_law_small" "_law_small" s_l_small a.f_l_small a.fd_l_small
  b_l_small : Binds K a.fd_l_small ["_law_rng"] []
  g_l_wide : mg "_law_wide" = some (.ref a.f_l_wide)
  F_l_wide : Fun K "_law_wide" "_law_wide" s_l_wide a.f_l_wide a.fd_l_wide
  b_l_wide : Binds K a.fd_l_wide ["_law_rng"] []
  g_l_letters : mg "_law_letters" = some (.ref a.f_l_letters)
  F_l_letters : Fun K "_law_letters" "_law_letters" s_l_letters a.f_l_letters a.fd_l_letters
  b_l_letters : Binds K a.fd_l_letters [] []
  g_l_is_name : mg "_law_is_name" = some (.ref a.f_l_is_name)
  F_l_is_name : Fun K "_law_is_name" "_law_is_name" s_l_is_name a.f_l_is_name a.fd_l_is_name
  b_l_is_name : Binds K a.fd_l_is_name ["_law_text"] []
  g_l_plain : mg "_law_plain" = some (.ref a.f_l_plain)
  F_l_plain : Fun K "_law_plain" "_law_plain" s_l_plain a.f_l_plain a.fd_l_plain
  b_l_plain : Binds K a.fd_l_plain ["_law_names_here"] []
  g_l_names : mg "_law_names" = some (.ref a.f_l_names)
  F_l_names : Fun K "_law_names" "_law_names" s_l_names a.f_l_names a.fd_l_names
  b_l_names : Binds K a.fd_l_names ["_law_rng", "_law_quantity"] []
  g_l_shares : mg "_law_shares" = some (.ref a.f_l_shares)
  F_l_shares : Fun K "_law_shares" "_law_shares" s_l_shares a.f_l_shares a.fd_l_shares
  b_l_shares : Binds K a.fd_l_shares ["_law_rng", "_law_quantity"] []
  g_l_term : mg "_law_term" = some (.ref a.f_l_term)
  F_l_term : Fun K "_law_term" "_law_term" s_l_term a.f_l_term a.fd_l_term
  b_l_term : Binds K a.fd_l_term ["_law_rng", "_law_names_here", "_law_deep"] []
  g_l_distance : mg "_law_distance" = some (.ref a.f_l_distance)
  F_l_distance : Fun K "_law_distance" "_law_distance" s_l_distance a.f_l_distance a.fd_l_distance
  b_l_distance : Binds K a.fd_l_distance ["_law_one", "_law_other"] []
  g_p_law : mg "law" = some (.ref a.f_p_law)
  F_p_law : Fun K "law" "law" s_p_law a.f_p_law a.fd_p_law
  b_p_law : Binds K a.fd_p_law ["_law_script"] []
  n_abs : mg "abs" = none
  n_enumerate : mg "enumerate" = none
  n_list : mg "list" = none
  n_zip : mg "zip" = none
  n_len : mg "len" = none
  n_all : mg "all" = none
  n_set : mg "set" = none
  n_range : mg "range" = none
  n_max : mg "max" = none
  n_sum : mg "sum" = none
  n_tuple : mg "tuple" = none
  n_dict : mg "dict" = none
  c_ZERO : mg "ZERO" = some (.ref a.o_ZERO)
  t_ZERO : ∀ H, SqT K H a.o_ZERO [(.int 0), (.int 1)]

section
variable {P : Program} {w : World} {K : PySem.W.Frag} {mg : Str → Option Value} {base : Heap} {a : Ad}
def sp_p_greatest_divisor (_ : PySem.W.Frag) : Sp := fun vs H Q _ => ∃ (n d : Int), vs = [.int n, .int d] ∧ Q (.int (Int.gcd n d : Int)) H

theorem ok_p_greatest_divisor (T : Txt K mg a) : FnOk P w K mg base CX0 1 a.f_p_greatest_divisor a.fd_p_greatest_divisor ["one", "other"] (sp_p_greatest_divisor K) := by
  refine T.F_p_greatest_divisor.ok sc_p_greatest_divisor (fun vs H Q E h => ?_) (fun cdv A outer s H vs Q E hr h => ?_)
  · obtain ⟨n, d, rfl, _⟩ := h
    rfl
  · obtain ⟨n, d, rfl, w⟩ := h
    refine ⟨_, (pss_cons (ps_while PassesOwn.never (pt_cmpR op_ne (pv 1) pe_int (nomark _)) (pss_one (ps_par (i := 0) (j := 1) (by rfl) sc_p_greatest_divisor.nd rfl rfl (by decide) rfl rfl (pa_cons (pv 1) (pa_cons (pe_op op_modN (pv 0) (pv 1)) pa_nil)) (by rfl))))
          (pss_one (ps_ret (pe_callB call_abs (by rfl) T.n_abs (by decide +kernel) (pa_cons (pv 0) pa_nil))))), ?_⟩
    refine ⟨fun m σ H' => ∃ x y : Int, σ = [some (.int x), some (.int y)] ∧ Int.gcd x y = Int.gcd n d ∧ m = y.natAbs ∧ H' = H, ⟨_, n, d, rfl, rfl, rfl, rfl⟩, ?_⟩
    rintro m σ H' ⟨x, y, rfl, hg, rfl, hH⟩
    obtain rfl : H = H' := hH.symm
    refine ⟨.int y, rfl, rfl, _, rfl, ite2 (fun e => ?_) (fun e => ?_)⟩
    · have y1 : y ≠ 0 := fun z => by subst z; simp at e
      refine ⟨fun σ' H' => σ' = [some (.int y), some (.int (x.fmod y))] ∧ H' = H, ?_, ?_⟩
      · rintro σ' H' ⟨rfl, rfl⟩
        exact ⟨(x.fmod y).natAbs, fmod_lt y1, y, x.fmod y, rfl, gcd_fmod.trans hg, rfl, rfl⟩
      · exact ⟨.int y, rfl, .int x, rfl, .int y, rfl, x, y, rfl, rfl, y1, _, _, rfl, rfl, rfl⟩
    · have y1 : y = 0 := by
        by_cases z : y = 0
        · exact z
        · exfalso; apply e; simp [z]
      subst y1
      refine ⟨.int x, rfl, x, rfl, ?_⟩
      have hx : (if x < 0 then -x else x) = (Int.gcd n d : Int) := by
        rw [← hg, Int.gcd_zero_right]
        split <;> omega
      rw [hx]
      exact w
end
section
variable {P : Program} {w : World} {K : PySem.W.Frag} {mg : Str → Option Value} {base : Heap} {a : Ad}
def sp_p_fraction (_ : PySem.W.Frag) : Sp := fun vs H Q _ => ∃ (n d : Int), vs = [.int n, .int d] ∧ d ≠ 0 ∧ d.natAbs < 2 ^ 8000 ∧ ∀ p, H p = none → Q (.ref p) (upd H p (.tup [.int (red n d).1, .int (red n d).2]))

theorem ok_p_fraction (T : Txt K mg a) : FnOk P w K mg base CX0 2 a.f_p_fraction a.fd_p_fraction ["num", "den"] (sp_p_fraction K) := by
  have G_p_greatest_divisor := ok_p_greatest_divisor (P := P) (w := w) (base := base) T
  refine FunD.ok0 T.F_p_fraction sc_p_fraction (fun vs H Q E h => ?_) (fun cdv A outer s H vs Q E hr h => ?_)
  · obtain ⟨n, d, rfl, _⟩ := h
    rfl
  · obtain ⟨n, d, rfl, hd, dB, w⟩ := h
    refine ⟨_, (pss_cons (ps_if (pt_cmpR op_eq (pv 1) pe_int (nomark _)) (pss_one ps_never) pss_nil)
          (pss_cons (ps_set (i := 2) sc_p_fraction.nd rfl (by first | exact Or.inl rfl | exact Or.inr rfl) (pe_call G_p_greatest_divisor (hr.mono (by first | decide | omega)) (by rfl) T.g_p_greatest_divisor T.F_p_greatest_divisor.kp T.b_p_greatest_divisor .nil pass0 (pa_cons (pv 0) (pa_cons (pv 1) pa_nil))))
          (C8.pss_cut (ps_if (pt_cmpR op_lt (pv 1) pe_int (nomark _)) (pss_one (ps_set (i := 2) sc_p_fraction.nd rfl (by first | exact Or.inl rfl | exact Or.inr rfl) (pe_un un_neg (pv 2)))) pss_nil)
          (pss_one (ps_ret (pe_tup (pa_cons (pe_op op_fdivA (pv 0) (pv 2)) (pa_cons (pe_op op_fdivA (pv 1) (pv 2)) pa_nil)))))))), ?_⟩
    have g0 := gcd_posI (n := n) hd
    have gB : (Int.gcd n d : Int).natAbs < 2 ^ 8000 := by
      refine Nat.lt_of_le_of_lt ?_ dB
      have h1 : Int.gcd n d ∣ d.natAbs := Nat.gcd_dvd_right _ _
      have h2 := Nat.le_of_dvd (by omega) h1
      omega
    have fr := frac_red (n := n) hd
    refine ⟨.int d, rfl, rfl, _, rfl, ifF (decide_eq_false fun z => hd (V.int.inj z)) ?_⟩
    refine ⟨.int n, rfl, .int d, rfl, n, d, rfl, ?_⟩
    refine ⟨fun σ H' => σ = [some (.int n), some (.int d), some (.int (if d < 0 then -(Int.gcd n d : Int) else (Int.gcd n d : Int)))] ∧ H' = H, ?_, ?_⟩
    · refine ⟨.int d, rfl, d, 0, rfl, rfl, _, rfl, ite2 (fun e => ?_) (fun e => ?_)⟩
      · refine ⟨.int (Int.gcd n d : Int), rfl, _, rfl, ?_, rfl⟩
        rw [if_pos (of_decide_eq_true e)]
        rfl
      · refine ⟨?_, rfl⟩
        rw [if_neg (fun z => e (decide_eq_true z))]
        rfl
    · rintro σ H' ⟨rfl, rfl⟩
      generalize hG : (if d < 0 then -(Int.gcd n d : Int) else (Int.gcd n d : Int)) = g at *
      have g1 : g ≠ 0 := by rw [← hG]; split <;> omega
      have g2 : g.natAbs < 2 ^ 8000 := by rw [← hG]; split <;> omega
      have cd : ∀ i, CDivA i g := fun _ => ⟨g1, log2_lt g2 (by decide) (by decide)⟩
      refine ⟨.int n, rfl, .int g, rfl, n, g, rfl, rfl, cd n, .int d, rfl, .int g, rfl, d, g, rfl, rfl, cd d, sz (by show 2 ≤ 100000; decide), fun p np => ?_⟩
      have z := w p np
      rw [← fr] at z
      exact z
end
section
variable {P : Program} {w : World} {K : PySem.W.Frag} {mg : Str → Option Value} {base : Heap} {a : Ad}
def sp_p_add (K : PySem.W.Frag) : Sp := spAddR K

theorem ok_p_add (T : Txt K mg a) : FnOk P w K mg base CX0 3 a.f_p_add a.fd_p_add ["one", "other"] (sp_p_add K) := by
  have G_p_fraction := ok_p_fraction (P := P) (w := w) (base := base) T
  obtain ⟨_, v_p_fraction_2, b_p_fraction_2⟩ := T.b_p_fraction_2
  refine T.F_p_add.ok sc_p_add (fun vs H Q E h => ?_) (fun cdv A outer s H vs Q E hr h => ?_)
  · obtain ⟨v1, v2, x, y, rfl, _⟩ := h
    rfl
  · obtain ⟨v1, v2, qx, qy, rfl, f1, f2, w⟩ := h
    replace w : ∀ p, H p = none → Q (.ref p) (upd H p (.tup [.int (radd (ofR qx) (ofR qy)).1, .int (radd (ofR qx) (ofR qy)).2])) := by rw [radd_R]; exact w
    replace f1 : FrB K H v1 (ofR qx).1 (ofR qx).2 3900 := f1
    replace f2 : FrB K H v2 (ofR qy).1 (ofR qy).2 3900 := f2
    generalize ofR qx = x at f1 w
    generalize ofR qy = y at f2 w
    refine ⟨_, (pss_one (ps_ret (pe_call G_p_fraction (hr.mono (by first | decide | omega)) (by rfl) T.g_p_fraction T.F_p_fraction.kp b_p_fraction_2 v_p_fraction_2 pass0 (pa_cons (pe_op op_add (pe_op op_mulW (pe_ix ix_tup (pv 0) pe_int (fun _ _ => rfl)) (pe_ix ix_tup (pv 1) pe_int (fun _ _ => rfl))) (pe_op op_mulW (pe_ix ix_tup (pv 1) pe_int (fun _ _ => rfl)) (pe_ix ix_tup (pv 0) pe_int (fun _ _ => rfl)))) (pa_cons (pe_op op_mulW (pe_ix ix_tup (pv 0) pe_int (fun _ _ => rfl)) (pe_ix ix_tup (pv 1) pe_int (fun _ _ => rfl))) pa_nil))))), ?_⟩
    obtain ⟨p, rfl, hp⟩ := f1.fr
    obtain ⟨q, rfl, hq⟩ := f2.fr
    have cm : ∀ {i j : Int}, i.natAbs < 2 ^ 3900 → j.natAbs < 2 ^ 3900 → CMulW i j := fun a b => mulW a b (by decide) (by decide)
    refine ⟨.ref p, rfl, p, _, 0, _, rfl, rfl, hp, rfl, .ref q, rfl, q, _, 1, _, rfl, rfl, hq, rfl, x.1, y.2, rfl, rfl, cm f1.nB f2.dB, .ref q, rfl, q, _, 0, _, rfl, rfl, hq, rfl, .ref p, rfl, p, _, 1, _, rfl, rfl, hp, rfl, y.1, x.2, rfl, rfl, cm f2.nB f1.dB, _, _, rfl, rfl, ?_⟩
    refine ⟨.ref p, rfl, p, _, 1, _, rfl, rfl, hp, rfl, .ref q, rfl, q, _, 1, _, rfl, rfl, hq, rfl, x.2, y.2, rfl, rfl, cm f1.dB f2.dB, _, _, rfl, pos_ne f1.d0 f2.d0, ?_, fun r nr => w r nr⟩
    rw [Int.natAbs_mul]
    exact Nat.lt_of_lt_of_le (Nat.mul_lt_mul'' f1.dB f2.dB) (by rw [← Nat.pow_add]; exact Nat.pow_le_pow_right (by decide) (by decide))
end
section
variable {P : Program} {w : World} {K : PySem.W.Frag} {mg : Str → Option Value} {base : Heap} {a : Ad}
def sp_p_multiply (K : PySem.W.Frag) : Sp := spMulR K

theorem ok_p_multiply (T : Txt K mg a) : FnOk P w K mg base CX0 3 a.f_p_multiply a.fd_p_multiply ["one", "other"] (sp_p_multiply K) := by
  have G_p_fraction := ok_p_fraction (P := P) (w := w) (base := base) T
  obtain ⟨_, v_p_fraction_2, b_p_fraction_2⟩ := T.b_p_fraction_2
  refine T.F_p_multiply.ok sc_p_multiply (fun vs H Q E h => ?_) (fun cdv A outer s H vs Q E hr h => ?_)
  · obtain ⟨v1, v2, x, y, rfl, _⟩ := h
    rfl
  · obtain ⟨v1, v2, qx, qy, rfl, f1, f2, w⟩ := h
    replace w : ∀ p, H p = none → Q (.ref p) (upd H p (.tup [.int (red ((ofR qx).1 * (ofR qy).1) ((ofR qx).2 * (ofR qy).2)).1, .int (red ((ofR qx).1 * (ofR qy).1) ((ofR qx).2 * (ofR qy).2)).2])) := by rw [show red ((ofR qx).1 * (ofR qy).1) ((ofR qx).2 * (ofR qy).2) = ofR (qx * qy) from rmul_R qx qy]; exact w
    replace f1 : FrB K H v1 (ofR qx).1 (ofR qx).2 3900 := f1
    replace f2 : FrB K H v2 (ofR qy).1 (ofR qy).2 3900 := f2
    generalize ofR qx = x at f1 w
    generalize ofR qy = y at f2 w
    refine ⟨_, (pss_one (ps_ret (pe_call G_p_fraction (hr.mono (by first | decide | omega)) (by rfl) T.g_p_fraction T.F_p_fraction.kp b_p_fraction_2 v_p_fraction_2 pass0 (pa_cons (pe_op op_mulW (pe_ix ix_tup (pv 0) pe_int (fun _ _ => rfl)) (pe_ix ix_tup (pv 1) pe_int (fun _ _ => rfl))) (pa_cons (pe_op op_mulW (pe_ix ix_tup (pv 0) pe_int (fun _ _ => rfl)) (pe_ix ix_tup (pv 1) pe_int (fun _ _ => rfl))) pa_nil))))), ?_⟩
    obtain ⟨p, rfl, hp⟩ := f1.fr
    obtain ⟨q, rfl, hq⟩ := f2.fr
    have cm : ∀ {i j : Int}, i.natAbs < 2 ^ 3900 → j.natAbs < 2 ^ 3900 → CMulW i j := fun a b => mulW a b (by decide) (by decide)
    refine ⟨.ref p, rfl, p, _, 0, _, rfl, rfl, hp, rfl, .ref q, rfl, q, _, 0, _, rfl, rfl, hq, rfl, x.1, y.1, rfl, rfl, cm f1.nB f2.nB, ?_⟩
    refine ⟨.ref p, rfl, p, _, 1, _, rfl, rfl, hp, rfl, .ref q, rfl, q, _, 1, _, rfl, rfl, hq, rfl, x.2, y.2, rfl, rfl, cm f1.dB f2.dB, _, _, rfl, pos_ne f1.d0 f2.d0, ?_, fun r nr => w r nr⟩
    rw [Int.natAbs_mul]
    exact Nat.lt_of_lt_of_le (Nat.mul_lt_mul'' f1.dB f2.dB) (by rw [← Nat.pow_add]; exact Nat.pow_le_pow_right (by decide) (by decide))
end
section
variable {P : Program} {w : World} {K : PySem.W.Frag} {mg : Str → Option Value} {base : Heap} {a : Ad}
def sp_p_is_less (K : PySem.W.Frag) : Sp := spLess K

theorem ok_p_is_less (T : Txt K mg a) : FnOk P w K mg base CX0 1 a.f_p_is_less a.fd_p_is_less ["one", "other"] (sp_p_is_less K) := by
  refine T.F_p_is_less.ok sc_p_is_less (fun vs H Q E h => ?_) (fun cdv A outer s H vs Q E hr h => ?_)
  · obtain ⟨v1, v2, x, y, rfl, _⟩ := h
    rfl
  · obtain ⟨v1, v2, x, y, rfl, f1, f2, w⟩ := h
    refine ⟨_, (pss_one (ps_ret (pe_cmpR op_lt (pe_op op_mulW (pe_ix ix_tup (pv 0) pe_int (fun _ _ => rfl)) (pe_ix ix_tup (pv 1) pe_int (fun _ _ => rfl))) (pe_op op_mulW (pe_ix ix_tup (pv 1) pe_int (fun _ _ => rfl)) (pe_ix ix_tup (pv 0) pe_int (fun _ _ => rfl))) (nomark _)))), ?_⟩
    obtain ⟨p, rfl, hp⟩ := f1.fr
    obtain ⟨q, rfl, hq⟩ := f2.fr
    have cm : ∀ {i j : Int}, i.natAbs < 2 ^ 20000 → j.natAbs < 2 ^ 20000 → CMulW i j := fun a b => mulW a b (by decide) (by decide)
    exact ⟨.ref p, rfl, p, _, 0, _, rfl, rfl, hp, rfl, .ref q, rfl, q, _, 1, _, rfl, rfl, hq, rfl, x.1, y.2, rfl, rfl, cm f1.nB f2.dB, .ref q, rfl, q, _, 0, _, rfl, rfl, hq, rfl, .ref p, rfl, p, _, 1, _, rfl, rfl, hp, rfl, y.1, x.2, rfl, rfl, cm f2.nB f1.dB, _, _, rfl, rfl, w⟩
end
section
variable {P : Program} {w : World} {K : PySem.W.Frag} {mg : Str → Option Value} {base : Heap} {a : Ad}
def sp_p_total (K : PySem.W.Frag) : Sp := fun vs H Q _ => ∃ (p : Addr) (xs : List V) (qs : List Rat) (v0 : V) (s0 : Rat) (A B : Nat), vs = [.ref p, v0] ∧ Sq K H p xs ∧ FRs K H xs qs B ∧ A + xs.length * (B + 1) ≤ 3900 ∧ FR K H v0 s0 A ∧ ∀ v H', Same H H' → FR K H' v (qs.foldl (· + ·) s0) (A + xs.length * (B + 1)) → Q v H'

theorem ok_p_total (T : Txt K mg a) : FnOk P w K mg base CX0 4 a.f_p_total a.fd_p_total ["row", "start"] (sp_p_total K) := by
  have G_p_add := ok_p_add (P := P) (w := w) (base := base) T
  refine FunD.ok0 T.F_p_total sc_p_total (fun vs H Q E h => ?_) (fun cdv A outer s H vs Q E hr h => ?_)
  · obtain ⟨p, xs, qs, v0, s0, A, B, rfl, _⟩ := h
    rfl
  · obtain ⟨p, xs, qs, v0, s0, A0, B, rfl, hS, hF, hl, f0, w⟩ := h
    refine ⟨_, (pss_cons (ps_set (i := 2) sc_p_total.nd rfl (by first | exact Or.inl rfl | exact Or.inr rfl) (pv 1))
          (pss_cons (ps_for PassesOwn.never rfl (EnT.pi_or (pi_list (pv 0)) (pi_tup (pv 0))) (pg_name (i := 3) sc_p_total.nd rfl (by first | exact Or.inl rfl | exact Or.inr rfl)) (pss_one (ps_set (i := 2) sc_p_total.nd rfl (by first | exact Or.inl rfl | exact Or.inr rfl) (pe_call G_p_add (hr.mono (by first | decide | omega)) (by rfl) T.g_p_add T.F_p_add.kp T.b_p_add .nil pass0 (pa_cons (pv 2) (pa_cons (pv 3) pa_nil))))))
          (pss_one (ps_ret (pv 2))))), ?_⟩
    refine ⟨v0, rfl, ?_⟩
    have hl' := hF.len
    have turn : ∀ (i : Nat) (x v : V) (H1 : Hp), xs[i]? = some x → Same H H1 → FR K H1 v ((qs.take i).foldl (· + ·) s0) (A0 + i * (B + 1)) → ∃ q, qs[i]? = some q ∧ FR K H1 x q 3900 ∧ FR K H1 v ((qs.take i).foldl (· + ·) s0) 3900 ∧ ∀ r : Addr, H1 r = none → FR K (upd H1 r (.tup [.int (ofR ((qs.take i).foldl (· + ·) s0 + q)).1, .int (ofR ((qs.take i).foldl (· + ·) s0 + q)).2])) (.ref r) ((qs.take (i + 1)).foldl (· + ·) s0) (A0 + (i + 1) * (B + 1)) := by
      intro i x v H1 hx s1 fv
      have hi : i < xs.length := (List.getElem?_eq_some_iff.mp hx).1
      obtain ⟨q, hq, fq⟩ := hF.get hx
      have m1 : (i + 1) * (B + 1) ≤ xs.length * (B + 1) := Nat.mul_le_mul_right _ hi
      rw [Nat.add_mul, Nat.one_mul] at m1
      refine ⟨q, hq, (fq.same s1).up (by omega), fv.up (by omega), fun r nr => ?_⟩
      rw [sum_more hq]
      exact FR.new ((fv.bt.add fq.bt).up (by rw [Nat.add_mul (n := i)]; omega))
    rcases hS with hS | hS
    · refine .inl ⟨.ref p, rfl, p, rfl, ⟨_, hS⟩, for_list (K := K) (a := p) (xs := xs) (fun i σ H' => ∃ v y, σ = [some (.ref p), some v0, some v, y] ∧ Same H H' ∧ FR K H' v ((qs.take i).foldl (· + ·) s0) (A0 + i * (B + 1))) ⟨v0, none, rfl, Same.refl H, by rw [Nat.zero_mul]; exact f0⟩ (fun i σ H' _ ⟨_, _, _, s1, _⟩ => s1.seq hS) ?_ ?_⟩
      · rintro i x σ H1 hx ⟨v, y, rfl, s1, fv⟩
        obtain ⟨q, hq, fx, fv', z⟩ := turn i x v H1 hx s1 fv
        exact ⟨v, rfl, x, rfl, v, x, _, q, rfl, fv', fx, fun r nr => ⟨_, _, rfl, s1.trans (Same.new nr), z r nr⟩⟩
      · rintro σ H1 ⟨v, y, rfl, s1, fv⟩
        rw [hl', List.take_length, ← hl'] at fv
        exact ⟨v, rfl, w v H1 s1 fv⟩
    · refine .inr ⟨.ref p, rfl, p, rfl, ⟨_, hS⟩, for_tup (K := K) (a := p) (xs := xs) (fun i σ H' => ∃ v y, σ = [some (.ref p), some v0, some v, y] ∧ Same H H' ∧ FR K H' v ((qs.take i).foldl (· + ·) s0) (A0 + i * (B + 1))) ⟨v0, none, rfl, Same.refl H, by rw [Nat.zero_mul]; exact f0⟩ (fun i σ H' _ ⟨_, _, _, s1, _⟩ => Same.T s1 hS) ?_ ?_⟩
      · rintro i x σ H1 hx ⟨v, y, rfl, s1, fv⟩
        obtain ⟨q, hq, fx, fv', z⟩ := turn i x v H1 hx s1 fv
        exact ⟨v, rfl, x, rfl, v, x, _, q, rfl, fv', fx, fun r nr => ⟨_, _, rfl, s1.trans (Same.new nr), z r nr⟩⟩
      · rintro σ H1 ⟨v, y, rfl, s1, fv⟩
        rw [hl', List.take_length, ← hl'] at fv
        exact ⟨v, rfl, w v H1 s1 fv⟩
end
section
variable {P : Program} {w : World} {K : PySem.W.Frag} {mg : Str → Option Value} {base : Heap} {a : Ad}
def sp_p_index_of_max (K : PySem.W.Frag) : Sp := spIx K lmax

theorem ok_p_index_of_max (T : Txt K mg a) : FnOk P w K mg base CX0 2 a.f_p_index_of_max a.fd_p_index_of_max ["row"] (sp_p_index_of_max K) := by
  have G_p_is_less := ok_p_is_less (P := P) (w := w) (base := base) T
  refine T.F_p_index_of_max.ok sc_p_index_of_max (fun vs H Q E h => ?_) (fun cdv A outer s H vs Q E hr h => ?_)
  · obtain ⟨p, xs, fs, rfl, _⟩ := h
    rfl
  · obtain ⟨p, xs, qs, rfl, hS, hF, hl, w0⟩ := h
    have w : ∀ (j : Nat) H', Same H H' → Fst rlt (qs.map ofR) j → Q (.int (j : Nat)) H' := fun j H' s f => w0 j H' s (max_R f)
    replace hF : Frs K H xs (qs.map ofR) 3900 := hF
    clear w0
    generalize qs.map ofR = fs at hF w
    refine ⟨_, (pss_cons (ps_set (i := 1) sc_p_index_of_max.nd rfl (by first | exact Or.inl rfl | exact Or.inr rfl) pe_int)
          (pss_cons (ps_for PassesOwn.never rfl (EnT.pi_or (pi_enum (by rfl) T.n_enumerate (pa_cons (pv 0) pa_nil)) (EnT.pi_enumT (by rfl) T.n_enumerate (pa_cons (pv 0) pa_nil))) (pg_tup rfl (pgs_cons (pg_name (i := 2) sc_p_index_of_max.nd rfl (by first | exact Or.inl rfl | exact Or.inr rfl)) (pgs_cons (pg_name (i := 3) sc_p_index_of_max.nd rfl (by first | exact Or.inl rfl | exact Or.inr rfl)) pgs_nil))) (pss_one (ps_if (pt_val (pe_call G_p_is_less (hr.mono (by first | decide | omega)) (by rfl) T.g_p_is_less T.F_p_is_less.kp T.b_p_is_less .nil pass0 (pa_cons (pe_ix ix_seq (pv 0) (pv 1) (fun _ _ => rfl)) (pa_cons (pv 3) pa_nil)))) (pss_one (ps_set (i := 1) sc_p_index_of_max.nd rfl (by first | exact Or.inl rfl | exact Or.inr rfl) (pv 2))) pss_nil)))
          (pss_one (ps_ret (pv 1))))), ?_⟩
    have hfl := hF.1
    rcases hS with hS | hS
    · refine .inl ⟨.ref p, rfl, p, xs, rfl, hS, ?_⟩
      refine ⟨fun i m σ H1 => ∃ (j : Nat) (y2 y3 : Option V), i + m = xs.length ∧ σ = [some (.ref p), some (.int (j : Nat)), y2, y3] ∧ Same H H1 ∧ Bst rlt fs i j, ⟨xs.length, 0, none, none, by omega, rfl, Same.refl H, Bst.start (by omega)⟩, fun i m σ H1 hW => ?_⟩
      obtain ⟨j, y2, y3, em, rfl, s1, hb⟩ := hW
      by_cases hi : i < xs.length
      · refine .inr ⟨⟨xs, xs[i], s1.seq hS, List.getElem?_eq_getElem hi⟩, fun σ' H' => ∃ (j : Nat) (y2 y3 : Option V), σ' = [some (.ref p), some (.int (j : Nat)), y2, y3] ∧ Same H H' ∧ Bst rlt fs (i + 1) j, fun σ' H' hN => ?_, fun v H2 hy => ?_⟩
        · obtain ⟨j, y2, y3, e1, e2, e3⟩ := hN
          exact ⟨m - 1, by omega, j, y2, y3, by omega, e1, e2, e3⟩
        · obtain ⟨tt, u, rfl, nT, rfl, fu⟩ := hy
          have hu := fu xs (s1.seq hS)
          have s2 := s1.trans (Same.new (o := .tup [.int (i : Nat), u]) nT)
          obtain ⟨fi, hfi, bi⟩ := (hF.same s2).at hu
          have jl : j < xs.length := by rw [hF.1]; exact hb.lt
          obtain ⟨xj, hj⟩ : ∃ xj, xs[j]? = some xj := ⟨xs[j], List.getElem?_eq_getElem jl⟩
          obtain ⟨fj, hfj, bj⟩ := (hF.same s2).at hj
          refine ⟨tt, [.int (i : Nat), u], rfl, SqT.of upd_same, rfl, .int (i : Nat), [u], rfl, u, [], rfl, rfl, ?_⟩
          refine ⟨.ref p, rfl, .int (j : Nat), rfl, .inl ⟨p, xs, _, xj, rfl, rfl, s2.seq hS, atI_nat hj, u, rfl, xj, u, fj, fi, rfl, bj.up' (by decide), bi.up' (by decide), _, rfl, ite2 (fun e => ?_) (fun e => ?_)⟩⟩
          · exact ⟨.int (i : Nat), rfl, i, _, _, rfl, s2, hb.take ordMax hF.low hfj hfi e⟩
          · exact ⟨j, _, _, rfl, s2, hb.keep hfj hfi (Bool.eq_false_iff.mpr e)⟩
      · have ei : i = xs.length := by omega
        subst ei
        refine .inl ⟨⟨xs, s1.seq hS, Nat.le_refl _⟩, ?_⟩
        rw [hF.1] at hb
        exact ⟨_, rfl, w j H1 s1 hb.fst⟩
    · refine .inr ⟨.ref p, rfl, p, xs, rfl, hS, ?_⟩
      refine ⟨fun i m σ H1 => ∃ (j : Nat) (y2 y3 : Option V), i + m = xs.length ∧ σ = [some (.ref p), some (.int (j : Nat)), y2, y3] ∧ Same H H1 ∧ Bst rlt fs i j, ⟨xs.length, 0, none, none, by omega, rfl, Same.refl H, Bst.start (by omega)⟩, fun i m σ H1 hW => ?_⟩
      obtain ⟨j, y2, y3, em, rfl, s1, hb⟩ := hW
      by_cases hi : i < xs.length
      · refine .inr ⟨⟨xs, xs[i], Same.T s1 hS, List.getElem?_eq_getElem hi⟩, fun σ' H' => ∃ (j : Nat) (y2 y3 : Option V), σ' = [some (.ref p), some (.int (j : Nat)), y2, y3] ∧ Same H H' ∧ Bst rlt fs (i + 1) j, fun σ' H' hN => ?_, fun v H2 hy => ?_⟩
        · obtain ⟨j, y2, y3, e1, e2, e3⟩ := hN
          exact ⟨m - 1, by omega, j, y2, y3, by omega, e1, e2, e3⟩
        · obtain ⟨tt, u, rfl, nT, rfl, fu⟩ := hy
          have hu := fu xs (Same.T s1 hS)
          have s2 := s1.trans (Same.new (o := .tup [.int (i : Nat), u]) nT)
          obtain ⟨fi, hfi, bi⟩ := (hF.same s2).at hu
          have jl : j < xs.length := by rw [hF.1]; exact hb.lt
          obtain ⟨xj, hj⟩ : ∃ xj, xs[j]? = some xj := ⟨xs[j], List.getElem?_eq_getElem jl⟩
          obtain ⟨fj, hfj, bj⟩ := (hF.same s2).at hj
          refine ⟨tt, [.int (i : Nat), u], rfl, SqT.of upd_same, rfl, .int (i : Nat), [u], rfl, u, [], rfl, rfl, ?_⟩
          refine ⟨.ref p, rfl, .int (j : Nat), rfl, .inr (.inl ⟨p, xs, _, xj, rfl, rfl, Same.T s2 hS, atI_nat hj, u, rfl, xj, u, fj, fi, rfl, bj.up' (by decide), bi.up' (by decide), _, rfl, ite2 (fun e => ?_) (fun e => ?_)⟩)⟩
          · exact ⟨.int (i : Nat), rfl, i, _, _, rfl, s2, hb.take ordMax hF.low hfj hfi e⟩
          · exact ⟨j, _, _, rfl, s2, hb.keep hfj hfi (Bool.eq_false_iff.mpr e)⟩
      · have ei : i = xs.length := by omega
        subst ei
        refine .inl ⟨⟨xs, Same.T s1 hS, Nat.le_refl _⟩, ?_⟩
        rw [hF.1] at hb
        exact ⟨_, rfl, w j H1 s1 hb.fst⟩
end
section
variable {P : Program} {w : World} {K : PySem.W.Frag} {mg : Str → Option Value} {base : Heap} {a : Ad}
def sp_p_index_of_min (K : PySem.W.Frag) : Sp := spIx K lmin

theorem ok_p_index_of_min (T : Txt K mg a) : FnOk P w K mg base CX0 2 a.f_p_index_of_min a.fd_p_index_of_min ["row"] (sp_p_index_of_min K) := by
  have G_p_is_less := ok_p_is_less (P := P) (w := w) (base := base) T
  refine T.F_p_index_of_min.ok sc_p_index_of_min (fun vs H Q E h => ?_) (fun cdv A outer s H vs Q E hr h => ?_)
  · obtain ⟨p, xs, fs, rfl, _⟩ := h
    rfl
  · obtain ⟨p, xs, qs, rfl, hS, hF, hl, w0⟩ := h
    have w : ∀ (j : Nat) H', Same H H' → Fst (fun a b => rlt b a) (qs.map ofR) j → Q (.int (j : Nat)) H' := fun j H' s f => w0 j H' s (min_R f)
    replace hF : Frs K H xs (qs.map ofR) 3900 := hF
    clear w0
    generalize qs.map ofR = fs at hF w
    refine ⟨_, (pss_cons (ps_set (i := 1) sc_p_index_of_min.nd rfl (by first | exact Or.inl rfl | exact Or.inr rfl) pe_int)
          (pss_cons (ps_for PassesOwn.never rfl (EnT.pi_or (pi_enum (by rfl) T.n_enumerate (pa_cons (pv 0) pa_nil)) (EnT.pi_enumT (by rfl) T.n_enumerate (pa_cons (pv 0) pa_nil))) (pg_tup rfl (pgs_cons (pg_name (i := 2) sc_p_index_of_min.nd rfl (by first | exact Or.inl rfl | exact Or.inr rfl)) (pgs_cons (pg_name (i := 3) sc_p_index_of_min.nd rfl (by first | exact Or.inl rfl | exact Or.inr rfl)) pgs_nil))) (pss_one (ps_if (pt_val (pe_call G_p_is_less (hr.mono (by first | decide | omega)) (by rfl) T.g_p_is_less T.F_p_is_less.kp T.b_p_is_less .nil pass0 (pa_cons (pv 3) (pa_cons (pe_ix ix_seq (pv 0) (pv 1) (fun _ _ => rfl)) pa_nil)))) (pss_one (ps_set (i := 1) sc_p_index_of_min.nd rfl (by first | exact Or.inl rfl | exact Or.inr rfl) (pv 2))) pss_nil)))
          (pss_one (ps_ret (pv 1))))), ?_⟩
    have hfl := hF.1
    rcases hS with hS | hS
    · refine .inl ⟨.ref p, rfl, p, xs, rfl, hS, ?_⟩
      refine ⟨fun i m σ H1 => ∃ (j : Nat) (y2 y3 : Option V), i + m = xs.length ∧ σ = [some (.ref p), some (.int (j : Nat)), y2, y3] ∧ Same H H1 ∧ Bst (fun a b => rlt b a) fs i j, ⟨xs.length, 0, none, none, by omega, rfl, Same.refl H, Bst.start (by omega)⟩, fun i m σ H1 hW => ?_⟩
      obtain ⟨j, y2, y3, em, rfl, s1, hb⟩ := hW
      by_cases hi : i < xs.length
      · refine .inr ⟨⟨xs, xs[i], s1.seq hS, List.getElem?_eq_getElem hi⟩, fun σ' H' => ∃ (j : Nat) (y2 y3 : Option V), σ' = [some (.ref p), some (.int (j : Nat)), y2, y3] ∧ Same H H' ∧ Bst (fun a b => rlt b a) fs (i + 1) j, fun σ' H' hN => ?_, fun v H2 hy => ?_⟩
        · obtain ⟨j, y2, y3, e1, e2, e3⟩ := hN
          exact ⟨m - 1, by omega, j, y2, y3, by omega, e1, e2, e3⟩
        · obtain ⟨tt, u, rfl, nT, rfl, fu⟩ := hy
          have hu := fu xs (s1.seq hS)
          have s2 := s1.trans (Same.new (o := .tup [.int (i : Nat), u]) nT)
          obtain ⟨fi, hfi, bi⟩ := (hF.same s2).at hu
          have jl : j < xs.length := by rw [hF.1]; exact hb.lt
          obtain ⟨xj, hj⟩ : ∃ xj, xs[j]? = some xj := ⟨xs[j], List.getElem?_eq_getElem jl⟩
          obtain ⟨fj, hfj, bj⟩ := (hF.same s2).at hj
          refine ⟨tt, [.int (i : Nat), u], rfl, SqT.of upd_same, rfl, .int (i : Nat), [u], rfl, u, [], rfl, rfl, ?_⟩
          refine ⟨u, rfl, .ref p, rfl, .int (j : Nat), rfl, .inl ⟨p, xs, _, xj, rfl, rfl, s2.seq hS, atI_nat hj, u, xj, fi, fj, rfl, bi.up' (by decide), bj.up' (by decide), _, rfl, ite2 (fun e => ?_) (fun e => ?_)⟩⟩
          · exact ⟨.int (i : Nat), rfl, i, _, _, rfl, s2, hb.take ordMin hF.low hfj hfi e⟩
          · exact ⟨j, _, _, rfl, s2, hb.keep hfj hfi (Bool.eq_false_iff.mpr e)⟩
      · have ei : i = xs.length := by omega
        subst ei
        refine .inl ⟨⟨xs, s1.seq hS, Nat.le_refl _⟩, ?_⟩
        rw [hF.1] at hb
        exact ⟨_, rfl, w j H1 s1 hb.fst⟩
    · refine .inr ⟨.ref p, rfl, p, xs, rfl, hS, ?_⟩
      refine ⟨fun i m σ H1 => ∃ (j : Nat) (y2 y3 : Option V), i + m = xs.length ∧ σ = [some (.ref p), some (.int (j : Nat)), y2, y3] ∧ Same H H1 ∧ Bst (fun a b => rlt b a) fs i j, ⟨xs.length, 0, none, none, by omega, rfl, Same.refl H, Bst.start (by omega)⟩, fun i m σ H1 hW => ?_⟩
      obtain ⟨j, y2, y3, em, rfl, s1, hb⟩ := hW
      by_cases hi : i < xs.length
      · refine .inr ⟨⟨xs, xs[i], Same.T s1 hS, List.getElem?_eq_getElem hi⟩, fun σ' H' => ∃ (j : Nat) (y2 y3 : Option V), σ' = [some (.ref p), some (.int (j : Nat)), y2, y3] ∧ Same H H' ∧ Bst (fun a b => rlt b a) fs (i + 1) j, fun σ' H' hN => ?_, fun v H2 hy => ?_⟩
        · obtain ⟨j, y2, y3, e1, e2, e3⟩ := hN
          exact ⟨m - 1, by omega, j, y2, y3, by omega, e1, e2, e3⟩
        · obtain ⟨tt, u, rfl, nT, rfl, fu⟩ := hy
          have hu := fu xs (Same.T s1 hS)
          have s2 := s1.trans (Same.new (o := .tup [.int (i : Nat), u]) nT)
          obtain ⟨fi, hfi, bi⟩ := (hF.same s2).at hu
          have jl : j < xs.length := by rw [hF.1]; exact hb.lt
          obtain ⟨xj, hj⟩ : ∃ xj, xs[j]? = some xj := ⟨xs[j], List.getElem?_eq_getElem jl⟩
          obtain ⟨fj, hfj, bj⟩ := (hF.same s2).at hj
          refine ⟨tt, [.int (i : Nat), u], rfl, SqT.of upd_same, rfl, .int (i : Nat), [u], rfl, u, [], rfl, rfl, ?_⟩
          refine ⟨u, rfl, .ref p, rfl, .int (j : Nat), rfl, .inr (.inl ⟨p, xs, _, xj, rfl, rfl, Same.T s2 hS, atI_nat hj, u, xj, fi, fj, rfl, bi.up' (by decide), bj.up' (by decide), _, rfl, ite2 (fun e => ?_) (fun e => ?_)⟩)⟩
          · exact ⟨.int (i : Nat), rfl, i, _, _, rfl, s2, hb.take ordMin hF.low hfj hfi e⟩
          · exact ⟨j, _, _, rfl, s2, hb.keep hfj hfi (Bool.eq_false_iff.mpr e)⟩
      · have ei : i = xs.length := by omega
        subst ei
        refine .inl ⟨⟨xs, Same.T s1 hS, Nat.le_refl _⟩, ?_⟩
        rw [hF.1] at hb
        exact ⟨_, rfl, w j H1 s1 hb.fst⟩
end
section
variable {P : Program} {w : World} {K : PySem.W.Frag} {mg : Str → Option Value} {base : Heap} {a : Ad}
def sp_p_subterms (K : PySem.W.Frag) : Sp := spSubs K

theorem ok_p_subterms (T : Txt K mg a) : FnOk P w K mg base CX0 1 a.f_p_subterms a.fd_p_subterms ["term"] (sp_p_subterms K) := by
  refine T.F_p_subterms.ok sc_p_subterms (fun vs H Q E h => ?_) (fun cdv A outer s H vs Q E hr h => ?_)
  · obtain ⟨v, t, n, rfl, _⟩ := h
    rfl
  · obtain ⟨v, t, n, rfl, ht, ar, w⟩ := h
    refine ⟨_, (pss_cons (ps_set (i := 1) sc_p_subterms.nd rfl (by first | exact Or.inl rfl | exact Or.inr rfl) (pe_ix ix_tup (pv 0) pe_int (fun _ _ => rfl)))
          (pss_cons (ps_if (pt_cmpR op_eq (pv 1) pe_str (nomark _)) (pss_one (ps_ret (pe_lst pa_nil))) pss_nil)
          (pss_cons (ps_if (pt_cmpR op_eq (pv 1) pe_str (nomark _)) (pss_one (ps_ret (pe_lst (pa_cons (pe_ix ix_tup (pv 0) pe_int (fun _ _ => rfl)) pa_nil)))) pss_nil)
          (pss_cons (ps_if (pt_cmpR op_eq (pv 1) pe_str (nomark _)) (pss_one (ps_ret (pe_lc (own := [("pair", 2)]) (g := gName 2) rfl sc_p_subterms.nd (pi_tup (pe_slice sl_tup (pv 0) (po_some pe_int) po_none)) (blkOk_by (own := [("pair", 2)]) (N := ["term", "kind", "pair"]) (sc := defScope s_p_subterms) (by decide +kernel)) (fun _ _ _ _ _ => (pg_name (i := 2) sc_p_subterms.nd rfl (Or.inl rfl))) (fun _ _ _ _ _ => pts_nil) (fun _ _ _ _ _ => (pe_ix (ixT (K := K) rfl) (pv 2) pe_int (fun _ _ => rfl)))))) pss_nil)
          (pss_one (ps_ret (pe_callTy call_list_of (by rfl) T.n_list (by decide +kernel) (pa_cons (pe_slice sl_tup (pv 0) (po_some pe_int) po_none) pa_nil)))))))), ?_⟩
    cases t with
    | ev s =>
      obtain ⟨p, rfl, hp⟩ := ht
      refine ⟨.ref p, rfl, p, _, 0, _, rfl, rfl, hp, atI_nat (j := 0) rfl, ?_⟩
      refine ⟨.str "event", rfl, rfl, _, rfl, ifT (decide_eq_true rfl) ?_⟩
      exact ⟨sz (by show 0 ≤ 100000; decide), fun l nl => w l _ [] (Same.new nl) nl upd_same All2.nil⟩
    | nd k ts =>
      obtain ⟨xs, hN, hA⟩ := ht
      have hlen := hA.1
      have ar1 : 1 ≤ ts.length := ar.1
      have ar2 : ts.length ≤ 60 := ar.2
      cases k with
      | delay f =>
        obtain ⟨p, x, fv, rfl, rfl, hp, _⟩ := hN
        refine ⟨.ref p, rfl, p, _, 0, _, rfl, rfl, hp, atI_nat (j := 0) rfl, ?_⟩
        refine ⟨.str "delay", rfl, rfl, _, rfl, ifF (str_no (by decide +kernel)) ⟨.str "delay", rfl, rfl, _, rfl, ifT (decide_eq_true rfl) ?_⟩⟩
        exact ⟨.ref p, rfl, p, _, 1, _, rfl, rfl, hp, rfl, sz (by show 1 ≤ 100000; decide), fun l nl => w l _ [x] (Same.new nl) nl upd_same (hA.mono fun _ _ z => z.same (Same.new nl))⟩
      | mix ws =>
        obtain ⟨p, ys, rfl, hp, l1, l2, hm⟩ := hN
        refine ⟨.ref p, rfl, p, _, 0, _, rfl, rfl, hp, atI_nat (j := 0) rfl, ?_⟩
        refine ⟨.str "mix", rfl, rfl, _, rfl, ifF (str_no (by decide +kernel)) ⟨.str "mix", rfl, rfl, _, rfl, ifF (str_no (by decide +kernel)) ⟨.str "mix", rfl, rfl, _, rfl, ifT (decide_eq_true rfl) ?_⟩⟩⟩
        refine ⟨.ref p, rfl, 1, rfl, p, _, rfl, hp, not_whole _ _, fun c nc => ?_⟩
        rw [cut_one]
        have sc := Same.new (o := .tup ys) nc
        refine ⟨c, rfl, ⟨_, SqT.of upd_same⟩, fun D nD => ?_⟩
        have nD0 : H D = none := sc.free nD
        have cD : c ≠ D := ne_of_none upd_same nD
        refine lc_tup (K := K) (a := c) (xs := ys) (fun i H1 => Same H H1 ∧ H1 c = some (.tup ys) ∧ H1 D = some (.lst (xs.take i))) ⟨sc.trans (Same.new nD), by rw [upd_ne cD]; exact upd_same, upd_same⟩ (fun i H1 _ h1 => SqT.of h1.2.1) ?_ ?_
        · rintro i y H1 hy ⟨s1, hc, hD⟩
          obtain ⟨x, q, wv, f, hx, hf, rfl, hq, _⟩ := mix_at l1 l2 hm hy
          have hq1 := Same.T s1 hq
          refine ⟨rfl, tYes_if ?_⟩
          refine ⟨.ref q, rfl, q, _, 1, _, rfl, rfl, hq1, rfl, ?_⟩
          refine ⟨_, hD, ?_, fun b o e => ?_, ?_, ?_⟩
          · rw [List.length_take]; exact szl (by omega)
          · rw [upd_ne (ne_of_none e nD0)]; exact s1 _ _ e
          · rw [upd_ne cD]; exact hc
          · rw [upd_same, List.take_add_one, hx]; rfl
        · rintro H1 ⟨s1, hc, hD⟩
          rw [show ys.length = xs.length from l1, List.take_length] at hD
          exact w D H1 xs s1 nD0 hD (hA.mono fun _ _ z => z.same s1)
      | max =>
        obtain ⟨p, rfl, hp⟩ := hN
        refine ⟨.ref p, rfl, p, _, 0, _, rfl, rfl, hp, atI_nat (j := 0) rfl, ?_⟩
        refine ⟨.str "max", rfl, rfl, _, rfl, ifF (str_no (by decide +kernel)) ⟨.str "max", rfl, rfl, _, rfl, ifF (str_no (by decide +kernel)) ⟨.str "max", rfl, rfl, _, rfl, ifF (str_no (by decide +kernel)) ?_⟩⟩⟩
        refine ⟨.ref p, rfl, 1, rfl, p, _, rfl, hp, not_whole _ _, fun c nc => ?_⟩
        rw [cut_one]
        have sc := Same.new (o := .tup xs) nc
        refine ⟨c, xs, rfl, .inr (SqT.of upd_same), fun l nl => ?_⟩
        have s2 := sc.trans (Same.new (o := .lst xs) nl)
        exact w l _ xs s2 (sc.free nl) upd_same (hA.mono fun _ _ z => z.same s2)
      | min =>
        obtain ⟨p, rfl, hp⟩ := hN
        refine ⟨.ref p, rfl, p, _, 0, _, rfl, rfl, hp, atI_nat (j := 0) rfl, ?_⟩
        refine ⟨.str "min", rfl, rfl, _, rfl, ifF (str_no (by decide +kernel)) ⟨.str "min", rfl, rfl, _, rfl, ifF (str_no (by decide +kernel)) ⟨.str "min", rfl, rfl, _, rfl, ifF (str_no (by decide +kernel)) ?_⟩⟩⟩
        refine ⟨.ref p, rfl, 1, rfl, p, _, rfl, hp, not_whole _ _, fun c nc => ?_⟩
        rw [cut_one]
        have sc := Same.new (o := .tup xs) nc
        refine ⟨c, xs, rfl, .inr (SqT.of upd_same), fun l nl => ?_⟩
        have s2 := sc.trans (Same.new (o := .lst xs) nl)
        exact w l _ xs s2 (sc.free nl) upd_same (hA.mono fun _ _ z => z.same s2)
      | median =>
        obtain ⟨p, rfl, hp⟩ := hN
        refine ⟨.ref p, rfl, p, _, 0, _, rfl, rfl, hp, atI_nat (j := 0) rfl, ?_⟩
        refine ⟨.str "median", rfl, rfl, _, rfl, ifF (str_no (by decide +kernel)) ⟨.str "median", rfl, rfl, _, rfl, ifF (str_no (by decide +kernel)) ⟨.str "median", rfl, rfl, _, rfl, ifF (str_no (by decide +kernel)) ?_⟩⟩⟩
        refine ⟨.ref p, rfl, 1, rfl, p, _, rfl, hp, not_whole _ _, fun c nc => ?_⟩
        rw [cut_one]
        have sc := Same.new (o := .tup xs) nc
        refine ⟨c, xs, rfl, .inr (SqT.of upd_same), fun l nl => ?_⟩
        have s2 := sc.trans (Same.new (o := .lst xs) nl)
        exact w l _ xs s2 (sc.free nl) upd_same (hA.mono fun _ _ z => z.same s2)
end
section
variable {P : Program} {w : World} {K : PySem.W.Frag} {mg : Str → Option Value} {base : Heap} {a : Ad}
def sp_p_event_names (K : PySem.W.Frag) : Sp := spNames K 12

theorem ok_p_event_names_n (T : Txt K mg a) : ∀ n, FnOk P w K mg base CX0 (n + 1) a.f_p_event_names a.fd_p_event_names ["term"] (spNames K n)
  | 0 => fn_false
  | n + 1 => by
    have G_p_subterms := ok_p_subterms (P := P) (w := w) (base := base) T
    have G_p_event_names := ok_p_event_names_n T n
    refine T.F_p_event_names.ok sc_p_event_names (fun vs H Q E h => ?_) (fun cdv A outer s H vs Q E hr h => ?_)
    · obtain ⟨v, t, rfl, _⟩ := h
      rfl
    obtain ⟨v, t, rfl, ht, ar, fl, w⟩ := h
    refine ⟨_, (pss_cons (ps_if (pt_cmpR op_eq (pe_ix ix_tup (pv 0) pe_int (fun _ _ => rfl)) pe_str (nomark _)) (pss_one (ps_ret (pe_lst (pa_cons (pe_ix ix_tup (pv 0) pe_int (fun _ _ => rfl)) pa_nil)))) pss_nil)
      (pss_cons (ps_set (i := 1) sc_p_event_names.nd rfl (by first | exact Or.inl rfl | exact Or.inr rfl) (pe_lst pa_nil))
      (pss_cons (ps_for PassesOwn.never rfl (pi_list (pe_call G_p_subterms (hr.mono (by first | decide | omega)) (by rfl) T.g_p_subterms T.F_p_subterms.kp T.b_p_subterms .nil pass0 (pa_cons (pv 0) pa_nil))) (pg_name (i := 2) sc_p_event_names.nd rfl (by first | exact Or.inl rfl | exact Or.inr rfl)) (pss_one (ps_for PassesOwn.never rfl (pi_list (pe_call G_p_event_names (hr.mono (by first | decide | omega)) (by rfl) T.g_p_event_names T.F_p_event_names.kp T.b_p_event_names .nil pass0 (pa_cons (pv 2) pa_nil))) (pg_name (i := 3) sc_p_event_names.nd rfl (by first | exact Or.inl rfl | exact Or.inr rfl)) (pss_one (ps_if (pt_cmpR op_notIn_seq (pv 3) (pv 1) (by rfl)) (pss_one (ps_expr (pe_bm PySem.F.plainAttrs_list PySem.F.slot_list_append PySem.F.type_list_append mt_append (pv 1) (pa_cons (pv 3) pa_nil)))) pss_nil)))))
      (pss_one (ps_ret (pv 1)))))), ?_⟩
    cases t with
    | ev s =>
      obtain ⟨p, rfl, hp⟩ := ht
      refine ⟨.ref p, rfl, p, _, 0, _, rfl, rfl, hp, rfl, rfl, _, rfl, ifT (decide_eq_true rfl) ?_⟩
      refine ⟨.ref p, rfl, p, _, 1, _, rfl, rfl, hp, rfl, sz (by show 1 ≤ 100000; decide), fun l nl => ?_⟩
      exact w l _ (Same.new nl) nl upd_same
    | nd k ts =>
      have hd : ∃ p ys, v = .ref p ∧ SqT K H p (.str (kdS k) :: ys) := by
        obtain ⟨xs, hN, _⟩ := ht
        cases k with
        | delay f => obtain ⟨p, x, fv, _, e, hp, _⟩ := hN; exact ⟨p, _, e, hp⟩
        | max => obtain ⟨p, e, hp⟩ := hN; exact ⟨p, _, e, hp⟩
        | min => obtain ⟨p, e, hp⟩ := hN; exact ⟨p, _, e, hp⟩
        | median => obtain ⟨p, e, hp⟩ := hN; exact ⟨p, _, e, hp⟩
        | mix ws => obtain ⟨p, ys, e, hp, _⟩ := hN; exact ⟨p, _, e, hp⟩
      have ne : decide (kdS k = ("event" : Str)) = false := by
        cases k with
        | delay f => exact (show decide (("delay" : Str) = "event") = false by decide +kernel)
        | max => exact (show decide (("max" : Str) = "event") = false by decide +kernel)
        | min => exact (show decide (("min" : Str) = "event") = false by decide +kernel)
        | median => exact (show decide (("median" : Str) = "event") = false by decide +kernel)
        | mix ws => exact (show decide (("mix" : Str) = "event") = false by decide +kernel)
      obtain ⟨p, ys, rfl, hp⟩ := hd
      refine ⟨.ref p, rfl, p, _, 0, _, rfl, rfl, hp, atI_nat (j := 0) rfl, rfl, _, rfl, ifF (str_no ne) ?_⟩
      refine ⟨sz (by show 0 ≤ 100000; decide), fun nm nnm => ?_⟩
      have s0 := Same.new (o := .lst []) nnm
      refine ⟨.ref p, rfl, .ref p, .nd k ts, n, rfl, TmAt.same s0 (n := n + 1) ht, ar.ok, fun l H1 xs s1 nl hl hA => ?_⟩
      have hnm1 : H1 nm = some (.lst []) := s1 _ _ upd_same
      have lnm : l ≠ nm := fun z => by rw [z, upd_same] at nl; cases nl
      have hA1 : xs.length = ts.length := hA.1
      refine ⟨l, rfl, ⟨_, SqL.of hl⟩, for_list (K := K) (a := l) (xs := xs) (fun i σ H2 => ∃ y2 y3, σ = [some (.ref p), some (.ref nm), y2, y3] ∧ Same H H2 ∧ H2 l = some (.lst xs) ∧ All2 (TmAt K H2 n) xs ts ∧ H2 nm = some (.lst ((ded (Tm.flats (ts.take i))).map V.str))) ⟨none, none, rfl, s0.trans s1, hl, hA, hnm1⟩ (fun i σ H2 _ ⟨_, _, _, _, z, _⟩ => SqL.of z) ?_ ?_⟩
      · rintro i x σ H2 hx ⟨y2, y3, rfl, s2, hl2, hA2, hnm⟩
        obtain ⟨u, hu, tu⟩ := hA2.at hx
        have il : i < xs.length := (List.getElem?_eq_some_iff.mp hx).1
        have fu : u.flat.length + (Tm.flats (ts.take i)).length ≤ 1000 := by
          have e := flats_take hu
          have e2 : (Tm.flats (ts.take (i + 1))).length ≤ (Tm.flats ts).length := by
            have tk : ∀ (m : Nat) (l : List Tm), (Tm.flats (l.take m)).length ≤ (Tm.flats l).length := by
              intro m
              induction m with
              | zero => intro l; rw [List.take_zero]; exact Nat.zero_le _
              | succ m ih =>
                intro l
                cases l with
                | nil => exact Nat.le_refl _
                | cons a l => rw [List.take_succ_cons, Tm.flats, Tm.flats, List.length_append, List.length_append]; have := ih l; omega
            exact tk _ _
          have e3 : (Tm.nd k ts).flat = Tm.flats ts := by rw [Tm.flat]
          rw [e3] at fl
          rw [e, List.length_append] at e2
          omega
        refine ⟨x, rfl, ?_⟩
        cases n with
        | zero => exact tu.elim
        | succ n =>
          refine ⟨x, u, rfl, tu, ar.sub (u := u) (List.mem_of_getElem? hu), by omega, fun l3 H3 s3 nl3 hl3 => ?_⟩
          have n3 : l3 ≠ nm := fun z => by rw [z, hnm] at nl3; cases nl3
          have n3l : l3 ≠ l := fun z => by rw [z, hl2] at nl3; cases nl3
          refine ⟨l3, rfl, ⟨_, SqL.of hl3⟩, for_list (K := K) (a := l3) (xs := (ded u.flat).map V.str) (fun j σ H4 => ∃ y3, σ = [some (.ref p), some (.ref nm), some x, y3] ∧ Same H H4 ∧ H4 l = some (.lst xs) ∧ All2 (TmAt K H4 (n + 1)) xs ts ∧ H4 l3 = some (.lst ((ded u.flat).map V.str)) ∧ H4 nm = some (.lst ((((ded u.flat).take j).foldl addS (ded (Tm.flats (ts.take i)))).map V.str))) ⟨_, rfl, s2.trans s3, s3 _ _ hl2, hA2.mono (fun _ _ z => z.same s3), hl3, s3 _ _ hnm⟩ (fun j σ H4 _ ⟨_, _, _, _, _, z, _⟩ => SqL.of z) ?_ ?_⟩
          · rintro j y σ H4 hy ⟨y3, rfl, s4, hl4, hA4, hl34, hnm4⟩
            obtain ⟨q, hq, rfl⟩ : ∃ q, (ded u.flat)[j]? = some q ∧ y = V.str q := by
              rw [List.getElem?_map] at hy
              cases e : (ded u.flat)[j]? with
              | none => rw [e] at hy; cases hy
              | some q => rw [e] at hy; exact ⟨q, rfl, (Option.some.inj hy).symm⟩
            have tk : (ded u.flat).take (j + 1) = (ded u.flat).take j ++ [q] := by rw [List.take_add_one, hq]; rfl
            refine ⟨.str q, rfl, .ref nm, rfl, nm, _, rfl, .inl (SqL.of hnm4), rfl, flat_strs _, _, rfl, ?_⟩
            have fin : ((ded u.flat).take (j + 1)).foldl addS (ded (Tm.flats (ts.take i))) = addS (((ded u.flat).take j).foldl addS (ded (Tm.flats (ts.take i)))) q := by rw [tk, List.foldl_append]; rfl
            show (if (!inV (.str q) _) = true then _ else _)
            rw [in_strs]
            by_cases hm : q ∈ ((ded u.flat).take j).foldl addS (ded (Tm.flats (ts.take i)))
            · refine ifF (by rw [decide_eq_true hm]; rfl) ?_
              refine ⟨_, rfl, s4, hl4, hA4, hl34, ?_⟩
              rw [fin, add_old hm]
              exact hnm4
            · refine ifT (by rw [decide_eq_false hm]; rfl) ?_
              refine ⟨.ref nm, rfl, .inl ⟨rfl, _, SqL.of hnm4⟩, .str q, rfl, nm, _, _, rfl, rfl, hnm4, ?_, ?_⟩
              · have b1 := ded_len ((ded u.flat).take j) (ded (Tm.flats (ts.take i)))
                have b2 := ded_len u.flat []
                have b3 := ded_len (Tm.flats (ts.take i)) []
                have b4 : ((ded u.flat).take j).length ≤ (ded u.flat).length := by rw [List.length_take]; exact Nat.min_le_right _ _
                have b2' : (ded u.flat).length ≤ 0 + u.flat.length := b2
                have b3' : (ded (Tm.flats (ts.take i))).length ≤ 0 + (Tm.flats (ts.take i)).length := b3
                rw [List.length_map]
                exact szl (by omega)
              · refine ⟨_, rfl, fun b o e => ?_, ?_, hA4.mono (fun _ _ z => z.put hnm4), ?_, ?_⟩
                · rw [upd_ne (ne_of_none e nnm)]; exact s4 _ _ e
                · rw [upd_ne lnm]; exact hl4
                · rw [upd_ne n3]; exact hl34
                · rw [upd_same, fin, add_new hm, List.map_append]; rfl
          · rintro σ H4 ⟨y3, rfl, s4, hl4, hA4, hl34, hnm4⟩
            refine ⟨_, _, rfl, s4, hl4, hA4, ?_⟩
            rw [List.length_map, List.take_length, ded_into, ← ded_app, ← flats_take hu] at hnm4
            exact hnm4
      · rintro σ H2 ⟨y2, y3, rfl, s2, hl2, hA2, hnm⟩
        rw [hA1, List.take_length] at hnm
        refine ⟨.ref nm, rfl, w nm H2 s2 nnm ?_⟩
        rw [Tm.flat]
        exact hnm
theorem ok_p_event_names (T : Txt K mg a) : FnOk P w K mg base CX0 13 a.f_p_event_names a.fd_p_event_names ["term"] (sp_p_event_names K) := ok_p_event_names_n T 12
end
section
variable {P : Program} {w : World} {K : PySem.W.Frag} {mg : Str → Option Value} {base : Heap} {a : Ad}
theorem cut_upto (xs : List V) (j : Nat) (h : j ≤ xs.length) : cutV xs none (some (j : Int)) = xs.take j := by
  unfold cutV
  rw [HT.sIx_none, show HT.sIx xs.length xs.length (some (j : Int)) = min j xs.length from HT.sIx_nat xs.length xs.length j, List.drop_zero, show min j xs.length - 0 = j by omega]
theorem cut_from (xs : List V) (j : Nat) (h : j ≤ xs.length) : cutV xs (some (j : Int)) none = xs.drop j := by
  unfold cutV
  rw [HT.sIx_none, show HT.sIx xs.length 0 (some (j : Int)) = min j xs.length from HT.sIx_nat xs.length 0 j, show min j xs.length = j by omega, List.take_of_length_le (by rw [List.length_drop]; omega)]
theorem FRs.three {K : PySem.W.Frag} {H : Hp} {xs : List V} {x y z : Rat} {B : Nat} (h : FRs K H xs [x, y, z] B) : ∃ a b c, xs = [a, b, c] ∧ FR K H a x B ∧ FR K H b y B ∧ FR K H c z B := by
  have l := h.len
  match xs, h, l with
  | [a, b, c], h, _ => exact ⟨a, b, c, rfl, h.at (i := 0) rfl rfl, h.at (i := 1) rfl rfl, h.at (i := 2) rfl rfl⟩
  | [], _, l => cases l
  | [_], _, l => cases l
  | [_, _], _, l => cases l
  | _ :: _ :: _ :: _ :: _, _, l => cases l
theorem med_rest {x y z : Rat} {j : Nat} (h : [x, y, z][j]? = some (lmax [x, y, z])) : lmax (([x, y, z] : List Rat).take j ++ ([x, y, z] : List Rat).drop (j + 1)) = lmed [x, y, z] := by
  have e : lmax [x, y, z] = max x (max y z) := rfl
  rw [e] at h
  match j, h with
  | 0, h =>
    have h' : x = max x (max y z) := Option.some.inj h
    show max y z = med3 x y z
    unfold med3
    simp only [Rat.max_def, Rat.min_def] at *
    grind
  | 1, h =>
    have h' : y = max x (max y z) := Option.some.inj h
    show max x z = med3 x y z
    unfold med3
    simp only [Rat.max_def, Rat.min_def] at *
    grind
  | 2, h =>
    have h' : z = max x (max y z) := Option.some.inj h
    show max x y = med3 x y z
    unfold med3
    simp only [Rat.max_def, Rat.min_def] at *
    grind
  | j + 3, h => cases h

def sp_p_median_of (K : PySem.W.Frag) : Sp := fun vs H Q _ => ∃ (p : Addr) (xs : List V) (qs : List Rat) (B : Nat), vs = [.ref p] ∧ H p = some (.lst xs) ∧ FRs K H xs qs B ∧ B ≤ 3900 ∧ qs.length = 3 ∧ ∀ v H', Same H H' → FR K H' v (lmed qs) B → Q v H'

theorem ok_p_median_of (T : Txt K mg a) : FnOk P w K mg base CX0 3 a.f_p_median_of a.fd_p_median_of ["values"] (sp_p_median_of K) := by
  have G_p_index_of_max := ok_p_index_of_max (P := P) (w := w) (base := base) T
  refine T.F_p_median_of.ok sc_p_median_of (fun vs H Q E h => ?_) (fun cdv A outer s H vs Q E hr h => ?_)
  · obtain ⟨p, xs, qs, B, rfl, _⟩ := h
    rfl
  · obtain ⟨p, xs, qs, B, rfl, hp, hF, hB, h3, w⟩ := h
    refine ⟨_, (pss_cons (ps_set (i := 1) sc_p_median_of.nd rfl (by first | exact Or.inl rfl | exact Or.inr rfl) (pe_call G_p_index_of_max (hr.mono (by first | decide | omega)) (by rfl) T.g_p_index_of_max T.F_p_index_of_max.kp T.b_p_index_of_max .nil pass0 (pa_cons (pv 0) pa_nil)))
          (pss_cons (ps_set (i := 2) sc_p_median_of.nd rfl (by first | exact Or.inl rfl | exact Or.inr rfl) (pe_op op_cat (pe_slice sl_list (pv 0) po_none (po_some (pv 1))) (pe_slice sl_list (pv 0) (po_some (pe_op op_add (pv 1) pe_int)) po_none)))
          (pss_one (ps_ret (pe_ix ix_list (pv 2) (pe_call G_p_index_of_max (hr.mono (by first | decide | omega)) (by rfl) T.g_p_index_of_max T.F_p_index_of_max.kp T.b_p_index_of_max .nil pass0 (pa_cons (pv 2) pa_nil)) (fun _ _ => rfl)))))), ?_⟩
    obtain ⟨x, y, z, rfl⟩ : ∃ x y z, qs = [x, y, z] := by
      match qs, h3 with
      | [x, y, z], _ => exact ⟨x, y, z, rfl⟩
    have hl : xs.length = 3 := hF.len
    refine ⟨.ref p, rfl, p, xs, _, rfl, .inl (SqL.of hp), hF.mono (fun _ _ f => f.up hB), by omega, fun j H1 s1 hj => ?_⟩
    have jl : j < 3 := (List.getElem?_eq_some_iff.mp hj).1
    have hp1 := s1 _ _ hp
    refine ⟨.ref p, rfl, .int (j : Nat), rfl, (j : Int), rfl, p, xs, rfl, SqL.of hp1, fun a na => ?_⟩
    rw [cut_upto xs j (by omega)]
    have s2 := Same.new (o := .lst (xs.take j)) na
    refine ⟨.ref p, rfl, .int (j : Nat), rfl, (j : Int), 1, rfl, rfl, _, rfl, p, xs, rfl, SqL.of (s2 _ _ hp1), fun c nc => ?_⟩
    rw [show ((j : Int) + 1) = ((j + 1 : Nat) : Int) by omega, cut_from xs (j + 1) (by omega)]
    have s3 := Same.new (o := .lst (xs.drop (j + 1))) nc
    refine ⟨a, c, _, _, rfl, rfl, s3 _ _ upd_same, upd_same, sz (by rw [List.length_take, List.length_drop]; omega), fun l nl => ?_⟩
    have s4 := Same.new (o := .lst (xs.take j ++ xs.drop (j + 1))) nl
    have sA := s1.trans (s2.trans (s3.trans s4))
    have hR' : ∀ HL : Hp, Same H HL → FRs K HL (xs.take j ++ xs.drop (j + 1)) (([x, y, z] : List Rat).take j ++ ([x, y, z] : List Rat).drop (j + 1)) B := by
      intro HL sL
      have e := hF.mono fun _ _ f => FR.same f sL
      obtain ⟨u1, u2, u3, rfl, f1, f2, f3⟩ := e.three
      match j, jl with
      | 0, _ => exact FRs.cons f2 (FRs.cons f3 FRs.nil)
      | 1, _ => exact FRs.cons f1 (FRs.cons f3 FRs.nil)
      | 2, _ => exact FRs.cons f1 (FRs.cons f2 FRs.nil)
    have hR := hR' _ sA
    have rl : (xs.take j ++ xs.drop (j + 1)).length = 2 := by rw [List.length_append, List.length_take, List.length_drop]; omega
    refine ⟨.ref l, rfl, .ref l, rfl, l, _, _, rfl, .inl (SqL.of upd_same), hR.mono (fun _ _ f => f.up hB), by omega, fun m H2 s5 hm => ?_⟩
    have ml : m < (xs.take j ++ xs.drop (j + 1)).length := by rw [hR.len]; exact (List.getElem?_eq_some_iff.mp hm).1
    refine ⟨l, _, _, (xs.take j ++ xs.drop (j + 1))[m], rfl, rfl, SqL.of (s5 _ _ upd_same), atI_nat (List.getElem?_eq_getElem ml), ?_⟩
    have fv := (hR.at (List.getElem?_eq_getElem ml) hm).same s5
    rw [med_rest hj] at fv
    exact w _ H2 (sA.trans s5) fv
end
section
variable {P : Program} {w : World} {K : PySem.W.Frag} {mg : Str → Option Value} {base : Heap} {a : Ad}
def sp_p_value_of (K : PySem.W.Frag) : Sp := spVal K 12
theorem take_map {ts : List Tm} {i : Nat} {u : Tm} {ρ : Str → Rat} (h : ts[i]? = some u) : (ts.take (i + 1)).map (Tm.val ρ) = (ts.take i).map (Tm.val ρ) ++ [u.val ρ] := by
  rw [List.take_add_one, h, List.map_append]
  rfl

theorem ok_p_value_of_n (T : Txt K mg a) : ∀ n, FnOk P w K mg base CX0 (n + 5) a.f_p_value_of a.fd_p_value_of ["term", "table"] (spVal K n)
  | 0 => fn_false
  | n + 1 => by
    have G_p_total := ok_p_total (P := P) (w := w) (base := base) T
    have G_p_add := ok_p_add (P := P) (w := w) (base := base) T
    have G_p_median_of := ok_p_median_of (P := P) (w := w) (base := base) T
    have G_p_subterms := ok_p_subterms (P := P) (w := w) (base := base) T
    have G_p_index_of_max := ok_p_index_of_max (P := P) (w := w) (base := base) T
    have G_p_index_of_min := ok_p_index_of_min (P := P) (w := w) (base := base) T
    have G_p_multiply := ok_p_multiply (P := P) (w := w) (base := base) T
    obtain ⟨_, v_p_total_1, b_p_total_1⟩ := T.b_p_total_1
    have G_p_value_of := ok_p_value_of_n T n
    refine T.F_p_value_of.ok sc_p_value_of (fun vs H Q E h => ?_) (fun cdv A outer s H vs Q E hr h => ?_)
    · obtain ⟨v, d, t, ρ, b, rfl, _⟩ := h
      rfl
    obtain ⟨v, d, t, ρ, b, rfl, ht, vo, hb, tb, w⟩ := h
    refine ⟨_, (pss_cons (ps_set (i := 2) sc_p_value_of.nd rfl (by first | exact Or.inl rfl | exact Or.inr rfl) (pe_ix ix_tup (pv 0) pe_int (fun _ _ => rfl)))
      (pss_cons (ps_if (pt_cmpR op_eq (pv 2) pe_str (nomark _)) (pss_one (ps_ret (pe_dget (u2 hr) (pv 1) (pe_ix ix_tup (pv 0) pe_int (fun _ _ => rfl)) (fun _ _ => rfl)))) pss_nil)
      (pss_cons (ps_setLc (i := 3) (own := [("part", 4)]) (g := gName 4) rfl sc_p_value_of.nd rfl rfl (sw_true rfl rfl rfl (by decide +kernel)) (pi_list (pe_call G_p_subterms (hr.mono (by first | decide | omega)) (by rfl) T.g_p_subterms T.F_p_subterms.kp T.b_p_subterms .nil pass0 (pa_cons (pv 0) pa_nil))) (blkOk_by (own := [("part", 4)]) (N := ["term", "table", "kind", "values", "part", "pair", "value"]) (sc := defScope s_p_value_of) (by decide +kernel)) (fun _ _ _ _ _ => (pg_name (i := 4) sc_p_value_of.nd rfl (Or.inl rfl))) (fun _ _ _ _ _ => pts_nil) (fun _ _ _ _ _ => (pe_call G_p_value_of (hr.mono (by first | decide | omega)) (by rfl) T.g_p_value_of T.F_p_value_of.kp T.b_p_value_of .nil pass0 (pa_cons (pv 4) (pa_cons (pv 1) pa_nil)))))
      (pss_cons (ps_if (pt_cmpR op_eq (pv 2) pe_str (nomark _)) (pss_one (ps_ret (pe_call G_p_add (hr.mono (by first | decide | omega)) (by rfl) T.g_p_add T.F_p_add.kp T.b_p_add .nil pass0 (pa_cons (pe_ix ix_list (pv 3) pe_int (fun _ _ => rfl)) (pa_cons (pe_ix ix_tup (pv 0) pe_int (fun _ _ => rfl)) pa_nil))))) pss_nil)
      (pss_cons (ps_if (pt_cmpR op_eq (pv 2) pe_str (nomark _)) (pss_one (ps_ret (pe_ix ix_list (pv 3) (pe_call G_p_index_of_max (hr.mono (by first | decide | omega)) (by rfl) T.g_p_index_of_max T.F_p_index_of_max.kp T.b_p_index_of_max .nil pass0 (pa_cons (pv 3) pa_nil)) (fun _ _ => rfl)))) pss_nil)
      (pss_cons (ps_if (pt_cmpR op_eq (pv 2) pe_str (nomark _)) (pss_one (ps_ret (pe_ix ix_list (pv 3) (pe_call G_p_index_of_min (hr.mono (by first | decide | omega)) (by rfl) T.g_p_index_of_min T.F_p_index_of_min.kp T.b_p_index_of_min .nil pass0 (pa_cons (pv 3) pa_nil)) (fun _ _ => rfl)))) pss_nil)
      (pss_cons (ps_if (pt_cmpR op_eq (pv 2) pe_str (nomark _)) (pss_one (ps_ret (pe_call G_p_median_of (hr.mono (by first | decide | omega)) (by rfl) T.g_p_median_of T.F_p_median_of.kp T.b_p_median_of .nil pass0 (pa_cons (pv 3) pa_nil)))) pss_nil)
      (pss_one (ps_ret (pe_call G_p_total (hr.mono (by first | decide | omega)) (by rfl) T.g_p_total T.F_p_total.kp b_p_total_1 v_p_total_1 pass0 (pa_cons (pe_lc (own := [("pair", 5), ("value", 6)]) (g := gTup K 2 (gCons (gName 5) (gCons (gName 6) gNil))) rfl sc_p_value_of.nd (ZpM.pi_zm (by rfl) T.n_zip (pa_cons (pe_slice sl_tup (pv 0) (po_some pe_int) po_none) (pa_cons (pv 3) pa_nil))) (blkOk_by (own := [("pair", 5), ("value", 6)]) (N := ["term", "table", "kind", "values", "part", "pair", "value"]) (sc := defScope s_p_value_of) (by decide +kernel)) (fun _ _ _ _ _ => (pg_tup rfl (pgs_cons (pg_name (i := 5) sc_p_value_of.nd rfl (Or.inl rfl)) (pgs_cons (pg_name (i := 6) sc_p_value_of.nd rfl (Or.inl rfl)) pgs_nil)))) (fun _ _ _ _ _ => pts_nil) (fun _ _ _ _ _ => (pe_call G_p_multiply (hr.mono (by first | decide | omega)) (by rfl) T.g_p_multiply T.F_p_multiply.kp T.b_p_multiply .nil pass0 (pa_cons (pe_ix (ixT (K := K) rfl) (pv 5) pe_int (fun _ _ => rfl)) (pa_cons (pv 6) pa_nil))))) pa_nil))))))))))), ?_⟩
    cases t with
    | ev s =>
      obtain ⟨p, rfl, hp⟩ := ht
      refine ⟨.ref p, rfl, p, _, 0, _, rfl, rfl, hp, rfl, ?_⟩
      refine ⟨.str "event", rfl, rfl, _, rfl, ifT (decide_eq_true rfl) ?_⟩
      obtain ⟨kvs, hd, hk⟩ := tb
      obtain ⟨u, hu, fu⟩ := hk s (by rw [Tm.flat]; exact List.mem_singleton.mpr rfl)
      refine ⟨.ref d, rfl, .ref p, rfl, p, _, 1, _, rfl, rfl, hp, rfl, d, u, rfl, ?_, w u H (Same.refl H) ?_⟩
      · have z := DGet.k (k := Sum.inr s) hd
        rw [hu] at z
        exact z
      · rw [Tm.val, Tm.bt]
        exact fu
    | nd k ts =>
      obtain ⟨p, zs, rfl, hp⟩ := ht.hd
      have len1 : 1 ≤ ts.length := vo.1.1.1
      have len2 : ts.length ≤ 60 := vo.1.1.2
      have bmb : ts.length * (Tm.bm b ts + 41) + 2 ≤ 3900 := by rw [Tm.bt] at hb; exact hb
      have bm1 : Tm.bm b ts + 41 ≤ ts.length * (Tm.bm b ts + 41) := Nat.le_mul_of_pos_left _ len1
      refine ⟨.ref p, rfl, p, _, 0, _, rfl, rfl, hp, atI_nat (j := 0) rfl, .str (kdS k), rfl, rfl, _, rfl, ifF (str_no (kd_ev k)) ?_⟩
      refine ⟨.ref p, rfl, .ref p, .nd k ts, n, rfl, ht, vo.arN.ok, fun l H1 xs s1 nl hl hA => ?_⟩
      have hA1 : xs.length = ts.length := hA.1
      refine ⟨l, rfl, ⟨_, SqL.of hl⟩, fun D nD => ?_⟩
      have nD0 : H D = none := s1.free nD
      have lD : l ≠ D := ne_of_none hl nD
      refine lc_list (K := K) (a := l) (xs := xs) (fun i H2 => Same H H2 ∧ H2 l = some (.lst xs) ∧ All2 (TmAt K H2 n) xs ts ∧ ∃ ys, H2 D = some (.lst ys) ∧ FRs K H2 ys ((ts.take i).map (Tm.val ρ)) (Tm.bm b ts)) ⟨s1.trans (Same.new nD), by rw [upd_ne lD]; exact hl, hA.mono fun _ _ z => z.same (Same.new nD), [], upd_same, FRs.nil⟩ (fun i H2 _ h2 => SqL.of h2.2.1) ?_ ?_
      · rintro i x H2 hx ⟨s2, hl2, hA2, ys, hD, hF⟩
        obtain ⟨u, hu, tu⟩ := hA2.at hx
        have um := List.mem_of_getElem? hu
        have ub := bm_ge (b := b) um
        have il : i < xs.length := (List.getElem?_eq_some_iff.mp hx).1
        refine ⟨rfl, tYes_if ?_⟩
        refine ⟨x, rfl, .ref d, rfl, ?_⟩
        have tbu : Tbl K H2 d ρ u.flat b := (tb.same s2).sub fun s hs => by rw [Tm.flat]; exact flat_mem um s hs
        have vou := vo.2 u um
        have yl := hF.len
        cases n with
        | zero => exact tu.elim
        | succ n =>
          refine ⟨x, d, u, ρ, b, rfl, tu, vou, by omega, tbu, fun uv H3 s3 fu => ?_⟩
          have hD3 := s3 _ _ hD
          refine ⟨ys, hD3, ?_, fun c o e => ?_, ?_, ?_, ys ++ [uv], upd_same, ?_⟩
          · rw [yl, List.length_map, List.length_take]; exact szl (by omega)
          · rw [upd_ne (ne_of_none e nD0)]; exact s3 _ _ (s2 _ _ e)
          · rw [upd_ne lD]; exact s3 _ _ hl2
          · exact hA2.mono fun _ _ z => (z.same s3).put hD3
          · rw [take_map hu]
            exact FRs.snoc (hF.mono fun _ _ f => (f.same s3).put hD3) ((fu.up ub).put hD3)
      · rintro H2 ⟨s2, hl2, hA2, ys, hD, hF⟩
        rw [hA1, List.take_length] at hF
        have yl : ys.length = ts.length := by rw [hF.len, List.length_map]
        have hp2 := Same.T s2 hp
        have ht2 : TmAt K H2 (n + 1) (.ref p) (.nd k ts) := TmAt.same s2 (n := n + 1) ht
        have ev : (Tm.nd k ts).val ρ = k.comb (ts.map (Tm.val ρ)) := by rw [Tm.val, vals_map]
        rw [ev, Tm.bt] at w
        cases k with
        | delay f =>
          refine ⟨.str "delay", rfl, rfl, _, rfl, ifT (decide_eq_true rfl) ?_⟩
          obtain ⟨xs2, ⟨p', x, fv, ex, e, hp', ff⟩, hB⟩ := ht2
          cases e
          have l1 : ts.length = 1 := by rw [← hB.1, ex]; rfl
          obtain ⟨t0, rfl⟩ : ∃ t0, ts = [t0] := by
            match ts, l1 with
            | [t0], _ => exact ⟨t0, rfl⟩
          obtain ⟨y0, rfl⟩ : ∃ y0, ys = [y0] := by
            match ys, yl with
            | [y0], _ => exact ⟨y0, rfl⟩
          have f0 := hF.at (i := 0) (x := y0) rfl rfl
          have f1 := FR.of (f := f) ff
          refine ⟨.ref D, rfl, D, _, 0, y0, rfl, rfl, SqL.of hD, rfl, .ref p, rfl, p, _, 2, _, rfl, rfl, hp', rfl, y0, fv, t0.val ρ, toR f, rfl, f0.up (by omega), f1.up (by omega), fun r nr => w _ _ (s2.trans (Same.new nr)) ?_⟩
          exact FR.new ((f0.bt.add f1.bt).up (by show _ ≤ 1 * _ + 2; omega))
        | max =>
          refine ⟨.str "max", rfl, rfl, _, rfl, ifF (str_no (by decide +kernel)) ⟨.str "max", rfl, rfl, _, rfl, ifT (decide_eq_true rfl) ?_⟩⟩
          refine ⟨.ref D, rfl, .ref D, rfl, D, ys, _, rfl, .inl (SqL.of hD), hF.mono (fun _ _ f => f.up (by omega)), by omega, fun j H3 s3 hj => ?_⟩
          have jl : j < ys.length := by rw [hF.len]; exact (List.getElem?_eq_some_iff.mp hj).1
          refine ⟨D, ys, _, ys[j], rfl, rfl, SqL.of (s3 _ _ hD), atI_nat (List.getElem?_eq_getElem jl), w _ H3 (s2.trans s3) ?_⟩
          exact ((hF.at (List.getElem?_eq_getElem jl) hj).same s3).up (by omega)
        | min =>
          refine ⟨.str "min", rfl, rfl, _, rfl, ifF (str_no (by decide +kernel)) ⟨.str "min", rfl, rfl, _, rfl, ifF (str_no (by decide +kernel)) ⟨.str "min", rfl, rfl, _, rfl, ifT (decide_eq_true rfl) ?_⟩⟩⟩
          refine ⟨.ref D, rfl, .ref D, rfl, D, ys, _, rfl, .inl (SqL.of hD), hF.mono (fun _ _ f => f.up (by omega)), by omega, fun j H3 s3 hj => ?_⟩
          have jl : j < ys.length := by rw [hF.len]; exact (List.getElem?_eq_some_iff.mp hj).1
          refine ⟨D, ys, _, ys[j], rfl, rfl, SqL.of (s3 _ _ hD), atI_nat (List.getElem?_eq_getElem jl), w _ H3 (s2.trans s3) ?_⟩
          exact ((hF.at (List.getElem?_eq_getElem jl) hj).same s3).up (by omega)
        | median =>
          refine ⟨.str "median", rfl, rfl, _, rfl, ifF (str_no (by decide +kernel)) ⟨.str "median", rfl, rfl, _, rfl, ifF (str_no (by decide +kernel)) ⟨.str "median", rfl, rfl, _, rfl, ifF (str_no (by decide +kernel)) ⟨.str "median", rfl, rfl, _, rfl, ifT (decide_eq_true rfl) ?_⟩⟩⟩⟩
          refine ⟨.ref D, rfl, D, ys, _, _, rfl, hD, hF, by omega, by rw [List.length_map]; exact vo.1.2 rfl, fun u H3 s3 fu => w u H3 (s2.trans s3) (fu.up (by omega))⟩
        | mix ws =>
          refine ⟨.str "mix", rfl, rfl, _, rfl, ifF (str_no (by decide +kernel)) ⟨.str "mix", rfl, rfl, _, rfl, ifF (str_no (by decide +kernel)) ⟨.str "mix", rfl, rfl, _, rfl, ifF (str_no (by decide +kernel)) ⟨.str "mix", rfl, rfl, _, rfl, ifF (str_no (by decide +kernel)) ?_⟩⟩⟩⟩
          obtain ⟨xs2, ⟨p', zs2, e, hp', l1, l2, hm⟩, hB⟩ := ht2
          cases e
          have l3 := hB.1
          refine ⟨.ref p, rfl, 1, rfl, p, _, rfl, hp', not_whole _ _, fun c nc => ?_⟩
          rw [cut_one]
          have sc := Same.new (o := .tup zs2) nc
          refine ⟨.ref D, rfl, c, D, zs2, ys, rfl, SqT.of upd_same, SqL.of (sc _ _ hD), fun L nL => ?_⟩
          have nL2 : H2 L = none := sc.free nL
          have cL : c ≠ L := ne_of_none upd_same nL
          have DL : D ≠ L := ne_of_none hD nL2
          have hc2 : (upd H2 c (.tup zs2)) c = some (.tup zs2) := upd_same
          generalize upd H2 c (.tup zs2) = H3 at *
          have hFm : ∀ Hx : Hp, Same H2 Hx → ∀ (i : Nat) y u, zs2[i]? = some y → ys[i]? = some u → ∃ q wv f x0 qv, y = .ref q ∧ SqT K Hx q [wv, x0] ∧ FR K Hx wv (toR f) 40 ∧ FR K Hx u qv (Tm.bm b ts) ∧ (List.zipWith (· * ·) (ws.map toR) (ts.map (Tm.val ρ)))[i]? = some (toR f * qv) := by
            intro Hx sx i y u hy hu
            obtain ⟨x0, q, wv, f, hx0, hf, e, hq, ff⟩ := mix_at l1 l2 hm hy
            obtain ⟨qv, hqv, fu⟩ := hF.get hu
            refine ⟨q, wv, f, x0, qv, e, Same.T sx hq, (FR.of (f := f) ff).same sx, fu.same sx, ?_⟩
            rw [List.getElem?_zipWith, hqv, List.getElem?_map, hf]
            rfl
          have zl : (List.zipWith (· * ·) (ws.map toR) (ts.map (Tm.val ρ))).length = ts.length := by rw [List.length_zipWith, List.length_map, List.length_map]; omega
          refine ⟨fun i m H5 => i + m = ts.length ∧ Same H3 H5 ∧ ∃ ms, H5 L = some (.lst ms) ∧ FRs K H5 ms ((List.zipWith (· * ·) (ws.map toR) (ts.map (Tm.val ρ))).take i) (40 + Tm.bm b ts), ⟨ts.length, by omega, Same.new nL, [], upd_same, FRs.nil⟩, fun i m H5 hW => ?_⟩
          obtain ⟨em, s5, ms, hL, hM⟩ := hW
          have ml : ms.length = min i ts.length := by rw [hM.len, List.length_take, zl]
          by_cases hi : i < ts.length
          · refine .inr ⟨⟨zs2, ys, zs2[i]'(by omega), ys[i]'(by omega), SqT.of (s5 _ _ hc2), SqL.of (s5 _ _ (sc _ _ hD)), List.getElem?_eq_getElem _, List.getElem?_eq_getElem _⟩, fun H6 => Same H3 H6 ∧ ∃ ms, H6 L = some (.lst ms) ∧ FRs K H6 ms ((List.zipWith (· * ·) (ws.map toR) (ts.map (Tm.val ρ))).take (i + 1)) (40 + Tm.bm b ts), fun H6 hN => ⟨m - 1, by omega, by omega, hN⟩, fun v H6 hy => ?_⟩
            obtain ⟨tt, u1, u2, rfl, nT, rfl, g1, g2⟩ := hy
            have hu1 := g1 _ (SqT.of (s5 _ _ hc2))
            have hu2 := g2 _ (SqL.of (s5 _ _ (sc _ _ hD)))
            have s6 := Same.new (o := .tup [u1, u2]) nT
            obtain ⟨q, wv, f, x0, qv, rfl, hq, fw, fu, hz⟩ := hFm _ (sc.trans (s5.trans s6)) i u1 u2 hu1 hu2
            refine ⟨tt, [.ref q, u2], rfl, SqT.of upd_same, rfl, .ref q, [u2], rfl, u2, [], rfl, rfl, rfl, tYes_if ?_⟩
            refine ⟨.ref q, rfl, q, _, 0, _, rfl, rfl, hq, rfl, u2, rfl, wv, u2, toR f, qv, rfl, fw.up (by omega), fu.up (by omega), fun r nr => ?_⟩
            have s7 := s6.trans (Same.new (o := .tup [.int (ofR (toR f * qv)).1, .int (ofR (toR f * qv)).2]) nr)
            have hL7 := s7 _ _ hL
            refine ⟨ms, hL7, by rw [ml]; exact szl (by omega), fun c o e => ?_, ms ++ [.ref r], upd_same, ?_⟩
            · rw [upd_ne (ne_of_none e nL)]; exact s7 _ _ (s5 _ _ e)
            · rw [List.take_add_one, hz]
              exact FRs.snoc (hM.mono fun _ _ z => (z.same s7).put hL7) (FR.put (FR.new (fw.bt.mul fu.bt)) hL7)
          · have ei : i = ts.length := by omega
            subst ei
            rw [List.take_of_length_le (by omega)] at hM
            refine .inl ⟨⟨zs2, ys, SqT.of (s5 _ _ hc2), SqL.of (s5 _ _ (sc _ _ hD)), by omega, by omega, .inl (by omega)⟩, ?_⟩
            have mz : ms.length = ts.length := by omega
            have bx : 1 + ms.length * (40 + Tm.bm b ts + 1) ≤ ts.length * (Tm.bm b ts + 41) + 2 := by rw [mz, show 40 + Tm.bm b ts + 1 = Tm.bm b ts + 41 by omega]; omega
            refine ⟨L, ms, _, .ref a.o_ZERO, 0, 1, 40 + Tm.bm b ts, rfl, .inl (SqL.of hL), hM, by omega, fr_zero (T.t_ZERO _), fun u H6 s6 fu => w u H6 (s2.trans (sc.trans (s5.trans s6))) ?_⟩
            rw [sum_lmix, Rat.zero_add] at fu
            exact fu.up bx
theorem ok_p_value_of (T : Txt K mg a) : FnOk P w K mg base CX0 17 a.f_p_value_of a.fd_p_value_of ["term", "table"] (sp_p_value_of K) := ok_p_value_of_n T 12
end
section
variable {P : Program} {w : World} {K : PySem.W.Frag} {mg : Str → Option Value} {base : Heap} {a : Ad}
def sp_p_check_names (K : PySem.W.Frag) : Sp := fun vs H Q _ => ∃ (v : V) (d : Addr) (t : Tm) (ρ : Str → Rat) (b : Nat), vs = [v, .ref d] ∧ TmAt K H 12 v t ∧ ArN 12 t ∧ t.flat.length ≤ 1000 ∧ Tbl K H d ρ t.flat b ∧ ∀ H', Same H H' → Q .non H'

theorem ok_p_check_names (T : Txt K mg a) : FnOk P w K mg base CX0 17 a.f_p_check_names a.fd_p_check_names ["term", "known"] (sp_p_check_names K) := by
  have G_p_event_names := ok_p_event_names (P := P) (w := w) (base := base) T
  refine T.F_p_check_names.ok sc_p_check_names (fun vs H Q E h => ?_) (fun cdv A outer s H vs Q E hr h => ?_)
  · obtain ⟨v, d, t, ρ, b, rfl, _⟩ := h
    rfl
  · obtain ⟨v, d, t, ρ, b, rfl, ht, ar, fl, tb, w⟩ := h
    refine ⟨_, (pss_one (ps_for PassesOwn.never rfl (pi_list (pe_call G_p_event_names (hr.mono (by first | decide | omega)) (by rfl) T.g_p_event_names T.F_p_event_names.kp T.b_p_event_names .nil pass0 (pa_cons (pv 0) pa_nil))) (pg_name (i := 2) sc_p_check_names.nd rfl (by first | exact Or.inl rfl | exact Or.inr rfl)) (pss_one (ps_if (pt_cmp (pc_dnotin (u2 hr) (pv 2) (pv 1))) (pss_one ps_never) pss_nil)))), ?_⟩
    refine ⟨v, rfl, v, t, rfl, ht, ar, fl, fun l H1 s1 nl hl => ?_⟩
    refine ⟨l, rfl, ⟨_, SqL.of hl⟩, for_list (K := K) (a := l) (xs := (ded t.flat).map V.str) (fun i σ H' => ∃ y, σ = [some v, some (.ref d), y] ∧ H' = H1) ⟨none, rfl, rfl⟩ (fun i σ H' _ ⟨_, _, e⟩ => by rw [e]; exact SqL.of hl) ?_ ?_⟩
    · rintro i x σ H2 hx ⟨y, rfl, rfl⟩
      obtain ⟨s, hs, rfl⟩ := strs_at hx
      obtain ⟨kvs, hd, hk⟩ := tb.same s1
      obtain ⟨u, hu, _⟩ := hk s (ded_mem.mp (List.mem_of_getElem? hs))
      refine ⟨.str s, rfl, .ref d, rfl, d, some u, rfl, ?_, false, rfl, ifF rfl ?_⟩
      · have z := DGet.k (k := Sum.inr s) hd
        rw [hu] at z
        exact z
      · exact ⟨_, rfl, rfl⟩
    · rintro σ H2 ⟨y, rfl, rfl⟩
      exact w _ s1
end
section
variable {P : Program} {w : World} {K : PySem.W.Frag} {mg : Str → Option Value} {base : Heap} {a : Ad}
def sp_p_evaluate (K : PySem.W.Frag) : Sp := fun vs H Q _ => ∃ (v : V) (d : Addr) (t : Tm) (ρ : Str → Rat) (b : Nat), vs = [v, .ref d] ∧ TmAt K H 12 v t ∧ VOk 12 t ∧ t.bt b ≤ 3900 ∧ t.flat.length ≤ 1000 ∧ Tbl K H d ρ t.flat b ∧ ∀ u H', Same H H' → FR K H' u (t.val ρ) (t.bt b) → Q u H'

theorem ok_p_evaluate (T : Txt K mg a) : FnOk P w K mg base CX0 18 a.f_p_evaluate a.fd_p_evaluate ["term", "table"] (sp_p_evaluate K) := by
  have G_p_check_names := ok_p_check_names (P := P) (w := w) (base := base) T
  have G_p_value_of := ok_p_value_of (P := P) (w := w) (base := base) T
  refine T.F_p_evaluate.ok sc_p_evaluate (fun vs H Q E h => ?_) (fun cdv A outer s H vs Q E hr h => ?_)
  · obtain ⟨v, d, t, ρ, b, rfl, _⟩ := h
    rfl
  · obtain ⟨v, d, t, ρ, b, rfl, ht, vo, hb, fl, tb, w⟩ := h
    refine ⟨_, (pss_cons (ps_expr (pe_call G_p_check_names (hr.mono (by first | decide | omega)) (by rfl) T.g_p_check_names T.F_p_check_names.kp T.b_p_check_names .nil pass0 (pa_cons (pv 0) (pa_cons (pv 1) pa_nil))))
          (pss_one (ps_ret (pe_call G_p_value_of (hr.mono (by first | decide | omega)) (by rfl) T.g_p_value_of T.F_p_value_of.kp T.b_p_value_of .nil pass0 (pa_cons (pv 0) (pa_cons (pv 1) pa_nil)))))), ?_⟩
    refine ⟨v, rfl, .ref d, rfl, v, d, t, ρ, b, rfl, ht, vo.arN, fl, tb, fun H1 s1 => ?_⟩
    exact ⟨v, rfl, .ref d, rfl, v, d, t, ρ, b, rfl, ht.same s1, vo, hb, tb.same s1, fun u H3 s3 fu => w u H3 (s1.trans s3) fu⟩
end
section
variable {P : Program} {w : World} {K : PySem.W.Frag} {mg : Str → Option Value} {base : Heap} {a : Ad}
def sp_l_source (K : PySem.W.Frag) : Sp := fun vs H Q _ => ∃ (b : Addr) (ns : List Int), vs = [.ref b] ∧ SqL K H b (ns.map V.int) ∧ ns.length ≤ 63 ∧ ∀ H' r, Same H H' → H r = none → Rg H' r → Q (.ref r) H'
theorem cut63 {xs : List V} (h : xs.length ≤ 63) : cutV xs none (some 63) = xs := by
  unfold cutV
  rw [HT.sIx_none, show HT.sIx xs.length xs.length (some 63) = min 63 xs.length from HT.sIx_nat xs.length xs.length 63]
  rw [List.drop_zero, show min 63 xs.length - 0 = xs.length by omega, List.take_length]

theorem ok_l_source (T : Txt K mg a) : FnOk P w K mg base CX0 1 a.f_l_source a.fd_l_source ["_law_script"] (sp_l_source K) := by
  refine T.F_l_source.ok sc_l_source (fun vs H Q E h => ?_) (fun cdv A outer s H vs Q E hr h => ?_)
  · obtain ⟨b, ns, rfl, _⟩ := h
    rfl
  · obtain ⟨b, ns, rfl, hS, hlen, w⟩ := h
    refine ⟨_, (pss_cons (ps_set (i := 1) sc_l_source.nd rfl (by first | exact Or.inl rfl | exact Or.inr rfl) (pe_op op_add pe_int (pe_op op_mul pe_int (pe_callB call_len (by rfl) T.n_len (by decide +kernel) (pa_cons (pe_slice sl_list (pv 0) po_none (po_some pe_int)) pa_nil)))))
          (pss_cons (ps_for PassesOwn.never rfl (pi_list (pe_slice sl_list (pv 0) po_none (po_some pe_int))) (pg_name (i := 2) sc_l_source.nd rfl (by first | exact Or.inl rfl | exact Or.inr rfl)) (pss_one (ps_set (i := 1) sc_l_source.nd rfl (by first | exact Or.inl rfl | exact Or.inr rfl) (pe_op op_mod (pe_op op_add (pe_op op_add (pe_op op_mul (pv 1) pe_int) (pe_op op_mod (pv 2) pe_int)) pe_int) pe_int))))
          (pss_one (ps_ret (pe_lst (pa_cons (pe_callTy call_list_of (by rfl) T.n_list (by decide +kernel) (pa_cons (pe_slice sl_list (pv 0) po_none (po_some pe_int)) pa_nil)) (pa_cons pe_int (pa_cons pe_int (pa_cons (pv 1) pa_nil))))))))), ?_⟩
    have hl : (ns.map V.int).length ≤ 63 := by rw [List.length_map]; exact hlen
    refine ⟨.ref b, rfl, 63, rfl, b, _, rfl, hS, fun p np => ?_⟩
    rw [cut63 hl]
    have s1 : Same H (upd H p (.lst (ns.map V.int))) := Same.new np
    refine ⟨.ref p, ns.length, rfl, .inl ⟨_, SqL.of upd_same, by simp⟩, 67, _, rfl, rfl, .inl ⟨by decide, by decide⟩, 9472, _, rfl, rfl, ?_⟩
    refine ⟨.ref b, rfl, 63, rfl, b, _, rfl, s1.seq hS, fun p2 np2 => ?_⟩
    rw [cut63 hl]
    have s2 : Same H (upd (upd H p (.lst (ns.map V.int))) p2 (.lst (ns.map V.int))) := s1.trans (Same.new np2)
    refine ⟨p2, rfl, ⟨_, SqL.of upd_same⟩, for_list (K := K) (a := p2) (xs := ns.map V.int) (fun i σ H' => ∃ k y, σ = [some (.ref b), some (.int k), y] ∧ 0 ≤ k ∧ k < 2147483563 ∧ H' = upd (upd H p (.lst (ns.map V.int))) p2 (.lst (ns.map V.int)))
      ⟨_, none, rfl, by omega, by omega, rfl⟩ (fun i σ H' _ ⟨_, _, _, _, _, e⟩ => by rw [e]; exact SqL.of upd_same) ?_ ?_⟩
    · rintro i y σ H' hi ⟨k, y', rfl, k0, k1, rfl⟩
      obtain ⟨z, hz, rfl⟩ : ∃ z, ns[i]? = some z ∧ y = V.int z := by
        rw [List.getElem?_map] at hi
        cases e : ns[i]? with
        | none => rw [e] at hi; cases hi
        | some z => rw [e] at hi; exact ⟨z, rfl, (Option.some.inj hi).symm⟩
      refine ⟨.int k, rfl, k, 40014, rfl, rfl, .inl ⟨by omega, by omega⟩, .int z, rfl, z, 2147483563, rfl, rfl, (show (0 : Int) < 2147483563 by decide), _, _, rfl, rfl, _, _, rfl, rfl, _, 2147483563, rfl, rfl, (show (0 : Int) < 2147483563 by decide), ?_⟩
      exact ⟨_, _, rfl, Int.emod_nonneg _ (by decide), Int.emod_lt_of_pos _ (by decide), rfl⟩
    · rintro σ H' ⟨k, y', rfl, k0, k1, rfl⟩
      refine ⟨.ref b, rfl, 63, rfl, b, _, rfl, s2.seq hS, fun p3 np3 => ?_⟩
      rw [cut63 hl]
      refine ⟨p3, _, rfl, .inl (SqL.of upd_same), fun l nl => ?_⟩
      refine ⟨.int k, rfl, sz (by show 4 ≤ 100000; decide), fun r nr => ?_⟩
      have s3 := s2.trans (Same.new (o := .lst (ns.map V.int)) np3)
      have s4 := s3.trans (Same.new (o := .lst (ns.map V.int)) nl)
      have s5 := s4.trans (Same.new (o := .lst [.ref l, .int 0, .int 0, .int k]) nr)
      refine w _ r s5 (s4.free nr) ⟨l, ns, 0, 0, k, upd_same, ?_, by omega, by omega, by omega, k0, k1⟩
      rw [upd_ne (fun z => by rw [z] at nl; rw [← z, upd_same] at nr; cases nr)]
      exact upd_same
end
section
variable {P : Program} {w : World} {K : PySem.W.Frag} {mg : Str → Option Value} {base : Heap} {a : Ad}
def sp_l_draw (_ : PySem.W.Frag) : Sp := fun vs H Q _ => ∃ (r : Addr) (q : Int), vs = [.ref r, .int q] ∧ Rg H r ∧ 0 < q ∧ q < 2 ^ 64 ∧ ∀ v H', 0 ≤ v → v < q → Kp r H H' → Rg H' r → Q (.int v) H'
theorem cell_at {ns : List Int} {i : Int} (h0 : 0 ≤ i) (h1 : i < (ns.length : Int)) : ∃ z, atI (ns.map V.int) i = some (V.int z) := by
  have e : i = ((i.toNat : Nat) : Int) := by omega
  have l : i.toNat < ns.length := by omega
  refine ⟨ns[i.toNat], ?_⟩
  have h : atI (ns.map V.int) ((i.toNat : Nat) : Int) = some (V.int ns[i.toNat]) := atI_nat (by simp [l])
  rw [← e] at h
  exact h
theorem div_ok {q : Int} (h : 0 < q) (h' : q < 2 ^ 64) (i : Int) : CDivW i q := wide_div (b := 64) h (by omega) (by decide) (by decide)

theorem ok_l_draw (T : Txt K mg a) : FnOk P w K mg base CX0 1 a.f_l_draw a.fd_l_draw ["_law_rng", "_law_quantity"] (sp_l_draw K) := by
  refine T.F_l_draw.ok sc_l_draw (fun vs H Q E h => ?_) (fun cdv A outer s H vs Q E hr h => ?_)
  · obtain ⟨r, q, rfl, _⟩ := h
    rfl
  · obtain ⟨r, q, rfl, ⟨c, ns, i, x, k, R⟩, q0, q1, w⟩ := h
    refine ⟨_, (C8.pss_cut (ps_if (PW.pt (pw_and (pt_cmpR op_eq (pe_ix ix_list (pv 0) pe_int (fun _ _ => rfl)) pe_int (nomark _)) (pw_and1 (pt_cmpR op_lt (pe_ix ix_list (pv 0) pe_int (fun _ _ => rfl)) (pe_callB call_len (by rfl) T.n_len (by decide +kernel) (pa_cons (pe_ix ix_list (pv 0) pe_int (fun _ _ => rfl)) pa_nil)) (nomark _))))) (pss_cons (ps_set (i := 2) sc_l_draw.nd rfl (by first | exact Or.inl rfl | exact Or.inr rfl) (pe_ix ix_list (pe_ix ix_list (pv 0) pe_int (fun _ _ => rfl)) (pe_ix ix_list (pv 0) pe_int (fun _ _ => rfl)) (fun _ _ => rfl)))
          (pss_cons (ps_asg (pe_op op_add (pe_ix ix_list (pv 0) pe_int (fun _ _ => rfl)) pe_int) (pg_sub (pv 0) pe_int set_list))
          (pss_one (ps_if (pt_cmpR op_ge (pv 2) (pe_op op_pow pe_int pe_int) (nomark _)) (pss_one (ps_asg (pv 2) (pg_sub (pv 0) pe_int set_list))) (pss_one (ps_asg (pe_op op_mod (pe_op op_add (pe_op op_add (pe_op op_mul (pe_ix ix_list (pv 0) pe_int (fun _ _ => rfl)) pe_int) (pe_op op_mul (pe_op op_mod (pv 2) pe_int) pe_int)) (pe_ix ix_list (pv 0) pe_int (fun _ _ => rfl))) pe_int) (pg_sub (pv 0) pe_int set_list))))))) pss_nil)
          (pss_cons (ps_if (pt_cmpR op_gt (pe_ix ix_list (pv 0) pe_int (fun _ _ => rfl)) pe_int (nomark _)) (pss_cons (ps_set (i := 3) sc_l_draw.nd rfl (by first | exact Or.inl rfl | exact Or.inr rfl) (pe_op op_mod (pe_ix ix_list (pv 0) pe_int (fun _ _ => rfl)) (pv 1)))
          (pss_cons (ps_asg (pe_op op_fdivW (pe_ix ix_list (pv 0) pe_int (fun _ _ => rfl)) (pv 1)) (pg_sub (pv 0) pe_int set_list))
          (pss_one (ps_ret (pv 3))))) pss_nil)
          (pss_cons (ps_set (i := 4) sc_l_draw.nd rfl (by first | exact Or.inl rfl | exact Or.inr rfl) (pe_ix ix_list (pv 0) pe_int (fun _ _ => rfl)))
          (pss_cons (ps_asg (pe_op op_mod (pe_op op_add (pe_op op_add (pe_op op_mul (pv 4) (pv 4)) (pe_op op_mul (pv 4) pe_int)) pe_int) pe_int) (pg_sub (pv 0) pe_int set_list))
          (pss_one (ps_ret (pe_op op_mod (pe_op op_add (pe_op op_fdivW (pe_ix ix_list (pv 0) pe_int (fun _ _ => rfl)) pe_int) (pe_op op_mul (pe_op op_mod (pe_ix ix_list (pv 0) pe_int (fun _ _ => rfl)) pe_int) pe_int)) (pv 1)))))))), ?_⟩
    have hR := R.hr
    have hC := R.hc
    have hk0 := R.k0
    have hk1 := R.k1
    have hi0 := R.i0
    refine ⟨fun σ H1 => ∃ y i1 x1 k1, σ = [some (.ref r), some (.int q), y, none, none] ∧ RgS H1 r c ns i1 x1 k1 ∧ Kp r H H1, ?_, ?_⟩
    · refine ⟨.ref r, rfl, r, _, 2, _, rfl, rfl, SqL.of hR, rfl, rfl, _, rfl, ite2 (fun e => ?_) (fun e => ?_)⟩
      · refine ⟨.ref r, rfl, r, _, 1, _, rfl, rfl, SqL.of hR, rfl, .ref r, rfl, r, _, 0, _, rfl, rfl, SqL.of hR, rfl, .ref c, ns.length, rfl, .inl ⟨_, SqL.of hC, by simp⟩, i, _, rfl, rfl, _, rfl, ite2 (fun e1 => ?_) (fun e1 => ?_)⟩
        · have l1 : i < (ns.length : Int) := of_decide_eq_true e1
          obtain ⟨z, hz⟩ := cell_at hi0 l1
          have hx : x = 0 := V.int.inj (of_decide_eq_true e)
          refine ⟨.ref r, rfl, r, _, 0, _, rfl, rfl, SqL.of hR, rfl, .ref r, rfl, r, _, 1, _, rfl, rfl, SqL.of hR, rfl, c, _, i, .int z, rfl, rfl, SqL.of hC, hz, ?_⟩
          refine ⟨.ref r, rfl, r, _, 1, _, rfl, rfl, SqL.of hR, rfl, i, 1, rfl, rfl, .ref r, rfl, r, _, 1, 1, rfl, rfl, hR, rfl, ?_⟩
          have R1 := R.set (i' := i + 1) (x' := x) (k' := k) (by omega) (by omega) R.x0 R.k0 R.k1
          refine ⟨.int z, rfl, 10, 18, rfl, rfl, ⟨by decide, by decide, by decide⟩, z, _, rfl, rfl, _, rfl, ite2 (fun e2 => ?_) (fun e2 => ?_)⟩
          · have hz2 : (10 : Int) ^ 18 ≤ z := of_decide_eq_true e2
            have R2 := R.set (i' := i + 1) (x' := z) (k' := k) (by omega) (by omega) (by omega) R.k0 R.k1
            refine ⟨.int z, rfl, .ref r, rfl, r, _, 2, 2, rfl, rfl, R1.hr, rfl, ?_⟩
            refine ⟨_, i + 1, z, k, rfl, ?_, ?_⟩
            · rw [upd_upd]; exact R2
            · rw [upd_upd]; exact Kp.at hR
          · refine ⟨.ref r, rfl, r, _, 3, _, rfl, rfl, SqL.of R1.hr, rfl, k, 40692, rfl, rfl, .inl ⟨by omega, by omega⟩, .int z, rfl, z, 2147483563, rfl, rfl, (show (0 : Int) < 2147483563 by decide), _, 71, rfl, rfl, .inr ⟨by decide, by decide⟩, _, _, rfl, rfl,
              .ref r, rfl, r, _, 1, _, rfl, rfl, SqL.of R1.hr, rfl, _, _, rfl, rfl, _, 2147483563, rfl, rfl, (show (0 : Int) < 2147483563 by decide), .ref r, rfl, r, _, 3, 3, rfl, rfl, R1.hr, rfl, ?_⟩
            have R2 := R.set (i' := i + 1) (x' := x) (k' := (k * 40692 + z % 2147483563 * 71 + (i + 1)) % 2147483563) (by omega) (by omega) (by omega) (by omega) (by omega)
            refine ⟨_, i + 1, x, (k * 40692 + z % 2147483563 * 71 + (i + 1)) % 2147483563, rfl, ?_, ?_⟩
            · rw [upd_upd]; exact R2
            · rw [upd_upd]; exact Kp.at hR
        · exact ⟨none, i, x, k, rfl, R, Kp.refl⟩
      · exact iteF ⟨none, i, x, k, rfl, R, Kp.refl⟩
    · rintro σ H1 ⟨y, i1, x1, k1, rfl, R1, kp⟩
      have hR1 := R1.hr
      have hk0 := R1.k0
      have hk1 := R1.k1
      have hx0 := R1.x0
      refine ⟨.ref r, rfl, r, _, 2, _, rfl, rfl, SqL.of hR1, rfl, x1, 0, rfl, rfl, _, rfl, ite2 (fun e => ?_) (fun e => ?_)⟩
      · refine ⟨.ref r, rfl, r, _, 2, _, rfl, rfl, SqL.of hR1, rfl, .int q, rfl, x1, q, rfl, rfl, q0, ?_⟩
        refine ⟨.ref r, rfl, r, _, 2, _, rfl, rfl, SqL.of hR1, rfl, .int q, rfl, x1, q, rfl, rfl, div_ok q0 q1 x1, .ref r, rfl, r, _, 2, 2, rfl, rfl, hR1, rfl, ?_⟩
        refine ⟨_, rfl, w _ _ (Int.emod_nonneg _ (by omega)) (Int.emod_lt_of_pos _ q0) (kp.trans (Kp.at hR1)) ⟨c, ns, i1, x1 / q, k1, R1.set R1.i0 R1.i1 (Int.ediv_nonneg hx0 (by omega)) hk0 hk1⟩⟩
      · refine ⟨.ref r, rfl, r, _, 3, _, rfl, rfl, SqL.of hR1, rfl, ?_⟩
        refine ⟨.int k1, rfl, .int k1, rfl, k1, k1, rfl, rfl, .inl ⟨by omega, by omega⟩, .int k1, rfl, k1, 39373, rfl, rfl, .inl ⟨by omega, by omega⟩, _, _, rfl, rfl, _, _, rfl, rfl, _, 2147483563, rfl, rfl, (show (0 : Int) < 2147483563 by decide), .ref r, rfl, r, _, 3, 3, rfl, rfl, hR1, rfl, ?_⟩
        have m0 : 0 ≤ (k1 * k1 + k1 * 39373 + 80021) % 2147483563 := Int.emod_nonneg _ (by decide)
        have m1 : (k1 * k1 + k1 * 39373 + 80021) % 2147483563 < 2147483563 := Int.emod_lt_of_pos _ (by decide)
        have R2 := R1.set (k' := (k1 * k1 + k1 * 39373 + 80021) % 2147483563) R1.i0 R1.i1 R1.x0 m0 m1
        refine ⟨.ref r, rfl, r, _, 3, _, rfl, rfl, SqL.of R2.hr, rfl, _, 61, rfl, rfl, ⟨by decide, by decide⟩, .ref r, rfl, r, _, 3, _, rfl, rfl, SqL.of R2.hr, rfl, _, 8123, rfl, rfl, (show (0 : Int) < 8123 by decide), _, 223, rfl, rfl, .inr ⟨by decide, by decide⟩, _, _, rfl, rfl, .int q, rfl, _, q, rfl, rfl, q0, ?_⟩
        exact w _ _ (Int.emod_nonneg _ (by omega)) (Int.emod_lt_of_pos _ q0) (kp.trans (Kp.at hR1)) ⟨c, ns, i1, x1, _, R2⟩
end
section
variable {P : Program} {w : World} {K : PySem.W.Frag} {mg : Str → Option Value} {base : Heap} {a : Ad}
/-- what may be chosen from: a list, a tuple, a text -/
def Pick (K : PySem.W.Frag) (H : Hp) (r : Addr) (v : V) (items : List V) : Prop := (∃ p, v = .ref p ∧ p ≠ r ∧ (SqL K H p items ∨ SqT K H p items)) ∨ ∃ z : Str, v = .str z ∧ items = z.cps.toList.map fun c => V.str ⟨#[c]⟩
def sp_l_choice (K : PySem.W.Frag) : Sp := fun vs H Q _ => ∃ (r : Addr) (v : V) (items : List V), vs = [.ref r, v] ∧ Rg H r ∧ Pick K H r v items ∧ 0 < items.length ∧ items.length ≤ 100000 ∧ ∀ x ∈ items, ∀ H', Kp r H H' → Rg H' r → Q x H'
theorem at_int {α : Type} {xs : List α} {i : Int} (h0 : 0 ≤ i) (h1 : i < (xs.length : Int)) : ∃ x, atI xs i = some x ∧ x ∈ xs := by
  have e : i = ((i.toNat : Nat) : Int) := by omega
  have l : i.toNat < xs.length := by omega
  refine ⟨xs[i.toNat], ?_, List.getElem_mem l⟩
  have h : atI xs ((i.toNat : Nat) : Int) = some xs[i.toNat] := atI_nat (by simp [l])
  rw [← e] at h
  exact h

theorem ok_l_choice (T : Txt K mg a) : FnOk P w K mg base CX0 2 a.f_l_choice a.fd_l_choice ["_law_rng", "_law_some"] (sp_l_choice K) := by
  have G_l_draw := ok_l_draw (P := P) (w := w) (base := base) T
  refine T.F_l_choice.ok sc_l_choice (fun vs H Q E h => ?_) (fun cdv A outer s H vs Q E hr h => ?_)
  · obtain ⟨r, v, items, rfl, _⟩ := h
    rfl
  · obtain ⟨r, v, items, rfl, R, pk, l0, l1, w⟩ := h
    refine ⟨_, (pss_one (ps_ret (pe_ix ix_seq (pv 1) (pe_call G_l_draw (hr.mono (by first | decide | omega)) (by rfl) T.g_l_draw T.F_l_draw.kp T.b_l_draw .nil pass0 (pa_cons (pv 0) (pa_cons (pe_callB call_len (by rfl) T.n_len (by decide +kernel) (pa_cons (pv 1) pa_nil)) pa_nil))) (fun _ _ => rfl)))), ?_⟩
    have n0 : (0 : Int) < (items.length : Int) := by omega
    have n1 : (items.length : Int) < 2 ^ 64 := by omega
    rcases pk with ⟨p, rfl, np, hp⟩ | ⟨z, rfl, hz⟩
    · refine ⟨.ref p, rfl, .ref r, rfl, .ref p, rfl, .ref p, items.length, rfl, ?_, r, _, rfl, R, n0, n1, fun j H' j0 j1 kp R' => ?_⟩
      · rcases hp with hp | hp
        · exact .inl ⟨_, hp, rfl⟩
        · exact .inr ⟨_, hp, rfl⟩
      · obtain ⟨x, hx, hm⟩ := at_int (xs := items) j0 j1
        rcases hp with hp | hp
        · exact .inl ⟨p, items, j, x, rfl, rfl, kp.L np hp, hx, w x hm H' kp R'⟩
        · exact .inr (.inl ⟨p, items, j, x, rfl, rfl, kp.T np hp, hx, w x hm H' kp R'⟩)
    · have hl : z.cps.toList.length = items.length := by rw [hz]; simp
      have hl2 : z.length = items.length := by rw [← hl]; simp [Str.length]
      refine ⟨.str z, rfl, .ref r, rfl, .str z, rfl, .str z, items.length, rfl, ⟨by rw [hl2]; exact sz l1, hl2.symm⟩, r, _, rfl, R, n0, n1, fun j H' j0 j1 kp R' => ?_⟩
      obtain ⟨c, hx, hm⟩ := at_int (xs := z.cps.toList) j0 (by rw [hl]; exact j1)
      exact .inr (.inr ⟨z, j, c, rfl, rfl, by rw [hl2]; exact sz l1, hx, w _ (by rw [hz]; exact List.mem_map.mpr ⟨c, hm, rfl⟩) H' kp R'⟩)
end
section
variable {P : Program} {w : World} {K : PySem.W.Frag} {mg : Str → Option Value} {base : Heap} {a : Ad}
def sp_l_reduce (_ : PySem.W.Frag) : Sp := fun vs H Q _ => ∃ (n d : Int), vs = [.int n, .int d] ∧ d ≠ 0 ∧ d.natAbs < 2 ^ 8000 ∧ ∀ p, H p = none → Q (.ref p) (upd H p (.tup [.int (red n d).1, .int (red n d).2]))

theorem ok_l_reduce (T : Txt K mg a) : FnOk P w K mg base CX0 1 a.f_l_reduce a.fd_l_reduce ["_law_num", "_law_den"] (sp_l_reduce K) := by
  refine T.F_l_reduce.ok sc_l_reduce (fun vs H Q E h => ?_) (fun cdv A outer s H vs Q E hr h => ?_)
  · obtain ⟨n, d, rfl, _⟩ := h
    rfl
  · obtain ⟨n, d, rfl, hd, dB, w⟩ := h
    refine ⟨_, (pss_cons (ps_par (i := 2) (j := 3) (by rfl) sc_l_reduce.nd rfl rfl (by decide) rfl rfl (pa_cons (pe_callB call_abs (by rfl) T.n_abs (by decide +kernel) (pa_cons (pv 0) pa_nil)) (pa_cons (pe_callB call_abs (by rfl) T.n_abs (by decide +kernel) (pa_cons (pv 1) pa_nil)) pa_nil)) (by rfl))
          (pss_cons (ps_while PassesOwn.never (pt_cmpR op_ne (pv 3) pe_int (nomark _)) (pss_one (ps_par (i := 2) (j := 3) (by rfl) sc_l_reduce.nd rfl rfl (by decide) rfl rfl (pa_cons (pv 3) (pa_cons (pe_op op_mod (pv 2) (pv 3)) pa_nil)) (by rfl))))
          (pss_cons (ps_set (i := 4) sc_l_reduce.nd rfl (by first | exact Or.inl rfl | exact Or.inr rfl) (pe_ifExp (pt_cmpR op_gt (pv 1) pe_int (nomark _)) pe_int (pe_un un_neg pe_int)))
          (pss_one (ps_ret (pe_tup (pa_cons (pe_op op_fdivW (pe_op op_mul (pv 4) (pv 0)) (pv 2)) (pa_cons (pe_op op_fdivW (pe_op op_mul (pv 4) (pv 1)) (pv 2)) pa_nil)))))))), ?_⟩
    refine ⟨.int n, rfl, n, rfl, .int d, rfl, d, rfl, _, _, rfl, ?_⟩
    refine ⟨fun m σ H' => ∃ x y : Int, σ = [some (.int n), some (.int d), some (.int x), some (.int y), none] ∧ 0 ≤ x ∧ 0 ≤ y ∧ Int.gcd x y = Int.gcd n d ∧ m = y.toNat ∧ H' = H, ⟨_, _, _, rfl, ?_, ?_, ?_, rfl, rfl⟩, ?_⟩
    · split <;> omega
    · split <;> omega
    · rw [Int.gcd_eq_natAbs_gcd_natAbs, Int.gcd_eq_natAbs_gcd_natAbs]
      congr 1
      · split <;> omega
      · split <;> omega
    rintro m σ H' ⟨x, y, rfl, x0, y0, hg, rfl, hH⟩
    obtain rfl : H = H' := hH.symm
    refine ⟨.int y, rfl, rfl, _, rfl, ite2 (fun e => ?_) (fun e => ?_)⟩
    · have y1 : y ≠ 0 := fun z => by subst z; simp at e
      refine ⟨fun σ' H' => σ' = [some (.int n), some (.int d), some (.int y), some (.int (x % y)), none] ∧ H' = H, ?_, ?_⟩
      · rintro σ' H' ⟨rfl, rfl⟩
        have h1 : 0 ≤ x % y := Int.emod_nonneg _ y1
        have h2 : x % y < y := Int.emod_lt_of_pos _ (by omega)
        exact ⟨(x % y).toNat, by omega, y, x % y, rfl, y0, h1, by rw [gcd_step x0 y0]; exact hg, rfl, rfl⟩
      · exact ⟨.int y, rfl, .int x, rfl, .int y, rfl, x, y, rfl, rfl, (show (0 : Int) < y by omega), _, _, rfl, rfl, rfl⟩
    · have y1 : y = 0 := by
        by_cases z : y = 0
        · exact z
        · exfalso; apply e; simp [z]
      subst y1
      have hx : x = (Int.gcd n d : Int) := by
        rw [← hg, Int.gcd_zero_right]
        omega
      have hp : 0 < x := by rw [hx]; exact gcd_posI hd
      have hB : x.natAbs < 2 ^ 8000 := by
        refine Nat.lt_of_le_of_lt ?_ dB
        have : Int.gcd n d ∣ d.natAbs := Nat.gcd_dvd_right _ _
        have := Nat.le_of_dvd (by omega) this
        omega
      have hdiv : ∀ i, CDivW i x := fun i => wide_div (b := 8000) hp hB (by decide) (by decide)
      refine ⟨.int d, rfl, d, 0, rfl, rfl, _, rfl, ?_⟩
      have fin : ∀ s : Int, s = 1 ∨ s = -1 → s = (if d > 0 then 1 else -1) → (tRet (tTup (tCons (tOp (rI CDivW fun i j => .int (i / j)) (tOp (rI CMul fun i j => .int (i * j)) (tVar 4) (tVar 0)) (tVar 2)) (tCons (tOp (rI CDivW fun i j => .int (i / j)) (tOp (rI CMul fun i j => .int (i * j)) (tVar 4) (tVar 1)) (tVar 2)) tNil)))) { nx := fun _ H' => Q .non H', rt := Q } [some (.int n), some (.int d), some (.int x), some (.int 0), some (.int s)] H := by
        intro s hs es
        refine ⟨.int s, rfl, .int n, rfl, s, n, rfl, rfl, .inl ⟨by omega, by omega⟩, .int x, rfl, _, x, rfl, rfl, hdiv _, .int s, rfl, .int d, rfl, s, d, rfl, rfl, .inl ⟨by omega, by omega⟩, .int x, rfl, _, x, rfl, rfl, hdiv _, sz (by show 2 ≤ 100000; decide), fun p np => ?_⟩
        have z := w p np
        unfold red at z
        rw [← hx, ← es] at z
        exact z
      refine ite2 (fun e2 => ?_) (fun e2 => ?_)
      · exact fin 1 (.inl rfl) (by rw [if_pos (show d > 0 from of_decide_eq_true e2)])
      · refine ⟨1, rfl, ?_⟩
        exact fin (-1) (.inr rfl) (by rw [if_neg (show ¬ d > 0 from fun z => e2 (decide_eq_true z))])
end
section
variable {P : Program} {w : World} {K : PySem.W.Frag} {mg : Str → Option Value} {base : Heap} {a : Ad}
def sp_l_add (K : PySem.W.Frag) : Sp := spAddR K

theorem ok_l_add (T : Txt K mg a) : FnOk P w K mg base CX0 2 a.f_l_add a.fd_l_add ["_law_one", "_law_other"] (sp_l_add K) := by
  have G_l_reduce := ok_l_reduce (P := P) (w := w) (base := base) T
  refine T.F_l_add.ok sc_l_add (fun vs H Q E h => ?_) (fun cdv A outer s H vs Q E hr h => ?_)
  · obtain ⟨v1, v2, x, y, rfl, _⟩ := h
    rfl
  · obtain ⟨v1, v2, qx, qy, rfl, f1, f2, w⟩ := h
    replace w : ∀ p, H p = none → Q (.ref p) (upd H p (.tup [.int (radd (ofR qx) (ofR qy)).1, .int (radd (ofR qx) (ofR qy)).2])) := by rw [radd_R]; exact w
    replace f1 : FrB K H v1 (ofR qx).1 (ofR qx).2 3900 := f1
    replace f2 : FrB K H v2 (ofR qy).1 (ofR qy).2 3900 := f2
    generalize ofR qx = x at f1 w
    generalize ofR qy = y at f2 w
    refine ⟨_, (pss_one (ps_ret (pe_call G_l_reduce (hr.mono (by first | decide | omega)) (by rfl) T.g_l_reduce T.F_l_reduce.kp T.b_l_reduce .nil pass0 (pa_cons (pe_op op_add (pe_op op_mulW (pe_ix ix_tup (pv 0) pe_int (fun _ _ => rfl)) (pe_ix ix_tup (pv 1) pe_int (fun _ _ => rfl))) (pe_op op_mulW (pe_ix ix_tup (pv 1) pe_int (fun _ _ => rfl)) (pe_ix ix_tup (pv 0) pe_int (fun _ _ => rfl)))) (pa_cons (pe_op op_mulW (pe_ix ix_tup (pv 0) pe_int (fun _ _ => rfl)) (pe_ix ix_tup (pv 1) pe_int (fun _ _ => rfl))) pa_nil))))), ?_⟩
    obtain ⟨p, rfl, hp⟩ := f1.fr
    obtain ⟨q, rfl, hq⟩ := f2.fr
    have cm : ∀ {i j : Int}, i.natAbs < 2 ^ 3900 → j.natAbs < 2 ^ 3900 → CMulW i j := fun a b => mulW a b (by decide) (by decide)
    refine ⟨.ref p, rfl, p, _, 0, _, rfl, rfl, hp, rfl, .ref q, rfl, q, _, 1, _, rfl, rfl, hq, rfl, x.1, y.2, rfl, rfl, cm f1.nB f2.dB, .ref q, rfl, q, _, 0, _, rfl, rfl, hq, rfl, .ref p, rfl, p, _, 1, _, rfl, rfl, hp, rfl, y.1, x.2, rfl, rfl, cm f2.nB f1.dB, _, _, rfl, rfl, ?_⟩
    refine ⟨.ref p, rfl, p, _, 1, _, rfl, rfl, hp, rfl, .ref q, rfl, q, _, 1, _, rfl, rfl, hq, rfl, x.2, y.2, rfl, rfl, cm f1.dB f2.dB, _, _, rfl, pos_ne f1.d0 f2.d0, ?_, fun r nr => w r nr⟩
    rw [Int.natAbs_mul]
    exact Nat.lt_of_lt_of_le (Nat.mul_lt_mul'' f1.dB f2.dB) (by rw [← Nat.pow_add]; exact Nat.pow_le_pow_right (by decide) (by decide))
end
section
variable {P : Program} {w : World} {K : PySem.W.Frag} {mg : Str → Option Value} {base : Heap} {a : Ad}
def sp_l_subtract (K : PySem.W.Frag) : Sp := spSubR K

theorem ok_l_subtract (T : Txt K mg a) : FnOk P w K mg base CX0 2 a.f_l_subtract a.fd_l_subtract ["_law_one", "_law_other"] (sp_l_subtract K) := by
  have G_l_reduce := ok_l_reduce (P := P) (w := w) (base := base) T
  refine T.F_l_subtract.ok sc_l_subtract (fun vs H Q E h => ?_) (fun cdv A outer s H vs Q E hr h => ?_)
  · obtain ⟨v1, v2, x, y, rfl, _⟩ := h
    rfl
  · obtain ⟨v1, v2, qx, qy, rfl, f1, f2, w⟩ := h
    replace w : ∀ p, H p = none → Q (.ref p) (upd H p (.tup [.int (red ((ofR qx).1 * (ofR qy).2 - (ofR qy).1 * (ofR qx).2) ((ofR qx).2 * (ofR qy).2)).1, .int (red ((ofR qx).1 * (ofR qy).2 - (ofR qy).1 * (ofR qx).2) ((ofR qx).2 * (ofR qy).2)).2])) := by rw [show red ((ofR qx).1 * (ofR qy).2 - (ofR qy).1 * (ofR qx).2) ((ofR qx).2 * (ofR qy).2) = ofR (qx - qy) from rsub_R qx qy]; exact w
    replace f1 : FrB K H v1 (ofR qx).1 (ofR qx).2 3900 := f1
    replace f2 : FrB K H v2 (ofR qy).1 (ofR qy).2 3900 := f2
    generalize ofR qx = x at f1 w
    generalize ofR qy = y at f2 w
    refine ⟨_, (pss_one (ps_ret (pe_call G_l_reduce (hr.mono (by first | decide | omega)) (by rfl) T.g_l_reduce T.F_l_reduce.kp T.b_l_reduce .nil pass0 (pa_cons (pe_op op_sub (pe_op op_mulW (pe_ix ix_tup (pv 0) pe_int (fun _ _ => rfl)) (pe_ix ix_tup (pv 1) pe_int (fun _ _ => rfl))) (pe_op op_mulW (pe_ix ix_tup (pv 1) pe_int (fun _ _ => rfl)) (pe_ix ix_tup (pv 0) pe_int (fun _ _ => rfl)))) (pa_cons (pe_op op_mulW (pe_ix ix_tup (pv 0) pe_int (fun _ _ => rfl)) (pe_ix ix_tup (pv 1) pe_int (fun _ _ => rfl))) pa_nil))))), ?_⟩
    obtain ⟨p, rfl, hp⟩ := f1.fr
    obtain ⟨q, rfl, hq⟩ := f2.fr
    have cm : ∀ {i j : Int}, i.natAbs < 2 ^ 3900 → j.natAbs < 2 ^ 3900 → CMulW i j := fun a b => mulW a b (by decide) (by decide)
    refine ⟨.ref p, rfl, p, _, 0, _, rfl, rfl, hp, rfl, .ref q, rfl, q, _, 1, _, rfl, rfl, hq, rfl, x.1, y.2, rfl, rfl, cm f1.nB f2.dB, .ref q, rfl, q, _, 0, _, rfl, rfl, hq, rfl, .ref p, rfl, p, _, 1, _, rfl, rfl, hp, rfl, y.1, x.2, rfl, rfl, cm f2.nB f1.dB, _, _, rfl, rfl, ?_⟩
    refine ⟨.ref p, rfl, p, _, 1, _, rfl, rfl, hp, rfl, .ref q, rfl, q, _, 1, _, rfl, rfl, hq, rfl, x.2, y.2, rfl, rfl, cm f1.dB f2.dB, _, _, rfl, pos_ne f1.d0 f2.d0, ?_, fun r nr => w r nr⟩
    rw [Int.natAbs_mul]
    exact Nat.lt_of_lt_of_le (Nat.mul_lt_mul'' f1.dB f2.dB) (by rw [← Nat.pow_add]; exact Nat.pow_le_pow_right (by decide) (by decide))
end
section
variable {P : Program} {w : World} {K : PySem.W.Frag} {mg : Str → Option Value} {base : Heap} {a : Ad}
def sp_l_is_less (K : PySem.W.Frag) : Sp := spLess K

theorem ok_l_is_less (T : Txt K mg a) : FnOk P w K mg base CX0 1 a.f_l_is_less a.fd_l_is_less ["_law_one", "_law_other"] (sp_l_is_less K) := by
  refine T.F_l_is_less.ok sc_l_is_less (fun vs H Q E h => ?_) (fun cdv A outer s H vs Q E hr h => ?_)
  · obtain ⟨v1, v2, x, y, rfl, _⟩ := h
    rfl
  · obtain ⟨v1, v2, x, y, rfl, f1, f2, w⟩ := h
    refine ⟨_, (pss_one (ps_ret (pe_cmpR op_lt (pe_op op_mulW (pe_ix ix_tup (pv 0) pe_int (fun _ _ => rfl)) (pe_ix ix_tup (pv 1) pe_int (fun _ _ => rfl))) (pe_op op_mulW (pe_ix ix_tup (pv 1) pe_int (fun _ _ => rfl)) (pe_ix ix_tup (pv 0) pe_int (fun _ _ => rfl))) (nomark _)))), ?_⟩
    obtain ⟨p, rfl, hp⟩ := f1.fr
    obtain ⟨q, rfl, hq⟩ := f2.fr
    have cm : ∀ {i j : Int}, i.natAbs < 2 ^ 20000 → j.natAbs < 2 ^ 20000 → CMulW i j := fun a b => mulW a b (by decide) (by decide)
    exact ⟨.ref p, rfl, p, _, 0, _, rfl, rfl, hp, rfl, .ref q, rfl, q, _, 1, _, rfl, rfl, hq, rfl, x.1, y.2, rfl, rfl, cm f1.nB f2.dB, .ref q, rfl, q, _, 0, _, rfl, rfl, hq, rfl, .ref p, rfl, p, _, 1, _, rfl, rfl, hp, rfl, y.1, x.2, rfl, rfl, cm f2.nB f1.dB, _, _, rfl, rfl, w⟩
end
section
variable {P : Program} {w : World} {K : PySem.W.Frag} {mg : Str → Option Value} {base : Heap} {a : Ad}
def sp_l_maximum (K : PySem.W.Frag) : Sp := spBest K lmax

theorem ok_l_maximum (T : Txt K mg a) : FnOk P w K mg base CX0 2 a.f_l_maximum a.fd_l_maximum ["_law_some"] (sp_l_maximum K) := by
  have G_l_is_less := ok_l_is_less (P := P) (w := w) (base := base) T
  refine T.F_l_maximum.ok sc_l_maximum (fun vs H Q E h => ?_) (fun cdv A outer s H vs Q E hr h => ?_)
  · obtain ⟨p, xs, qs, B, rfl, _⟩ := h
    rfl
  · obtain ⟨p, xs, qs, B, rfl, hS, hF, hB, hl, w0⟩ := h
    have w : ∀ (j : Nat) v f, xs[j]? = some v → (qs.map ofR)[j]? = some f → (∀ (i : Nat) g, (qs.map ofR)[i]? = some g → rlt f g = false) → Q v H := by
      intro j v f hv hf k
      obtain ⟨q, hq, fq⟩ := hF.get hv
      rw [List.getElem?_map, hq] at hf
      cases hf
      refine w0 v (List.mem_of_getElem? hv) ?_
      rw [lmax_eq hq fun i g hg => by
        have z := k i (ofR g) (by rw [List.getElem?_map, hg]; rfl)
        rw [rlt_R] at z
        exact Rat.not_lt.mp (of_decide_eq_false z)]
      exact fq
    replace hF : Frs K H xs (qs.map ofR) B := hF
    clear w0
    generalize qs.map ofR = fs at hF w
    refine ⟨_, (pss_cons (ps_set (i := 1) sc_l_maximum.nd rfl (by first | exact Or.inl rfl | exact Or.inr rfl) (pe_ix ix_list (pv 0) pe_int (fun _ _ => rfl)))
          (pss_cons (ps_for PassesOwn.never rfl (pi_list (pv 0)) (pg_name (i := 2) sc_l_maximum.nd rfl (by first | exact Or.inl rfl | exact Or.inr rfl)) (pss_one (ps_if (pt_val (pe_call G_l_is_less (hr.mono (by first | decide | omega)) (by rfl) T.g_l_is_less T.F_l_is_less.kp T.b_l_is_less .nil pass0 (pa_cons (pv 1) (pa_cons (pv 2) pa_nil)))) (pss_one (ps_set (i := 1) sc_l_maximum.nd rfl (by first | exact Or.inl rfl | exact Or.inr rfl) (pv 2))) pss_nil)))
          (pss_one (ps_ret (pv 1))))), ?_⟩
    have hfl := hF.1
    obtain ⟨x0, h0⟩ : ∃ x, xs[0]? = some x := ⟨xs[0], List.getElem?_eq_getElem hl⟩
    refine ⟨.ref p, rfl, p, xs, 0, x0, rfl, rfl, hS, atI_nat (j := 0) h0, ?_⟩
    refine ⟨.ref p, rfl, p, rfl, ⟨_, hS⟩, for_list (K := K) (a := p) (xs := xs) (fun i σ H' => ∃ (j : Nat) (v : V) (y : Option V), σ = [some (.ref p), some v, y] ∧ H' = H ∧ xs[j]? = some v ∧ Bst rlt fs i j) ⟨0, x0, none, rfl, rfl, h0, Bst.start (by omega)⟩ (fun i σ H' _ ⟨_, _, _, _, e, _⟩ => by rw [e]; exact hS) ?_ ?_⟩
    · rintro i x σ H1 hx ⟨j, v, y, rfl, rfl, hv, hb⟩
      obtain ⟨fx, hfx, bx⟩ := hF.at hx
      obtain ⟨fv, hfv, bv⟩ := hF.at hv
      refine ⟨v, rfl, x, rfl, v, x, fv, fx, rfl, bv.up' hB, bx.up' hB, _, rfl, ite2 (fun e => ?_) (fun e => ?_)⟩
      · exact ⟨x, rfl, i, x, _, rfl, rfl, hx, hb.take ordMax hF.low hfv hfx e⟩
      · exact ⟨j, v, _, rfl, rfl, hv, hb.keep hfv hfx (Bool.eq_false_iff.mpr e)⟩
    · rintro σ H1 ⟨j, v, y, rfl, rfl, hv, hb⟩
      rw [hF.1] at hb
      obtain ⟨f, e, k1, _⟩ := hb.fst
      exact ⟨v, rfl, w j v f hv e k1⟩
end
section
variable {P : Program} {w : World} {K : PySem.W.Frag} {mg : Str → Option Value} {base : Heap} {a : Ad}
def sp_l_abs (K : PySem.W.Frag) : Sp := fun vs H Q _ => ∃ (v : V) (x : Rat) (B : Nat), vs = [v] ∧ FR K H v x B ∧ ∀ p, H p = none → FR K (upd H p (.tup [.int (ofR (rabs x)).1, .int (ofR (rabs x)).2])) (.ref p) (rabs x) B → Q (.ref p) (upd H p (.tup [.int (ofR (rabs x)).1, .int (ofR (rabs x)).2]))

theorem ok_l_abs (T : Txt K mg a) : FnOk P w K mg base CX0 1 a.f_l_abs a.fd_l_abs ["_law_one"] (sp_l_abs K) := by
  refine T.F_l_abs.ok sc_l_abs (fun vs H Q E h => ?_) (fun cdv A outer s H vs Q E hr h => ?_)
  · obtain ⟨v, x, B, rfl, _⟩ := h
    rfl
  · obtain ⟨v, x, B, rfl, f, w⟩ := h
    refine ⟨_, (pss_one (ps_ret (pe_tup (pa_cons (pe_callB call_abs (by rfl) T.n_abs (by decide +kernel) (pa_cons (pe_ix ix_tup (pv 0) pe_int (fun _ _ => rfl)) pa_nil)) (pa_cons (pe_ix ix_tup (pv 0) pe_int (fun _ _ => rfl)) pa_nil))))), ?_⟩
    obtain ⟨p, rfl, hp⟩ := f.fr
    refine ⟨.ref p, rfl, p, _, 0, _, rfl, rfl, hp, rfl, _, rfl, .ref p, rfl, p, _, 1, _, rfl, rfl, hp, rfl, sz (by show 2 ≤ 100000; decide), fun r nr => ?_⟩
    have e := rabs_of x
    have z := w r nr (FR.new (f.bt.abs))
    rw [e] at z
    exact z
end
section
variable {P : Program} {w : World} {K : PySem.W.Frag} {mg : Str → Option Value} {base : Heap} {a : Ad}
def sp_l_small (K : PySem.W.Frag) : Sp := fun vs H Q _ => ∃ (r : Addr), vs = [.ref r] ∧ Rg H r ∧ ∀ v H' n d, Kp r H H' → Rg H' r → FrB K H' v n d 5 → Q v H'

theorem ok_l_small (T : Txt K mg a) : FnOk P w K mg base CX0 3 a.f_l_small a.fd_l_small ["_law_rng"] (sp_l_small K) := by
  have G_l_reduce := ok_l_reduce (P := P) (w := w) (base := base) T
  have G_l_choice := ok_l_choice (P := P) (w := w) (base := base) T
  have G_l_draw := ok_l_draw (P := P) (w := w) (base := base) T
  refine T.F_l_small.ok sc_l_small (fun vs H Q E h => ?_) (fun cdv A outer s H vs Q E hr h => ?_)
  · obtain ⟨r, rfl, _⟩ := h
    rfl
  · obtain ⟨r, rfl, R, w⟩ := h
    refine ⟨_, (pss_one (ps_ret (pe_call G_l_reduce (hr.mono (by first | decide | omega)) (by rfl) T.g_l_reduce T.F_l_reduce.kp T.b_l_reduce .nil pass0 (pa_cons (pe_op op_sub (pe_call G_l_draw (hr.mono (by first | decide | omega)) (by rfl) T.g_l_draw T.F_l_draw.kp T.b_l_draw .nil pass0 (pa_cons (pv 0) (pa_cons pe_int pa_nil))) pe_int) (pa_cons (pe_call G_l_choice (hr.mono (by first | decide | omega)) (by rfl) T.g_l_choice T.F_l_choice.kp T.b_l_choice .nil pass0 (pa_cons (pv 0) (pa_cons (pe_lst (pa_cons pe_int (pa_cons pe_int (pa_cons pe_int (pa_cons pe_int (pa_cons pe_int (pa_cons pe_int pa_nil))))))) pa_nil))) pa_nil))))), ?_⟩
    refine ⟨.ref r, rfl, r, 25, rfl, R, by decide, by decide, fun v H1 v0 v1 k1 R1 => ?_⟩
    refine ⟨_, _, rfl, rfl, .ref r, rfl, sz (by show 6 ≤ 100000; decide), fun l nl => ?_⟩
    have R2 : Rg (upd H1 l (.lst [.int 1, .int 1, .int 1, .int 2, .int 3, .int 4])) r := R1.same (Same.new nl)
    refine ⟨r, .ref l, _, rfl, R2, .inl ⟨l, rfl, R1.ne nl, .inl (SqL.of upd_same)⟩, by show 0 < 6; decide, by show 6 ≤ 100000; decide, fun x hx H2 k2 R3 => ?_⟩
    obtain ⟨j, rfl, j0, j1⟩ : ∃ j : Int, x = .int j ∧ 0 < j ∧ j < 32 := by
      simp only [List.mem_cons, List.not_mem_nil, or_false] at hx
      rcases hx with h | h | h | h | h | h
      · exact ⟨1, h, by decide, by decide⟩
      · exact ⟨1, h, by decide, by decide⟩
      · exact ⟨1, h, by decide, by decide⟩
      · exact ⟨2, h, by decide, by decide⟩
      · exact ⟨3, h, by decide, by decide⟩
      · exact ⟨4, h, by decide, by decide⟩
    have hB : (2 : Nat) ^ 5 = 32 := by decide
    refine ⟨v - 8, j, rfl, by omega, Nat.lt_of_lt_of_le (show j.natAbs < 2 ^ 5 by omega) (Nat.pow_le_pow_right (by decide) (by decide)), fun p np => ?_⟩
    have k3 := k1.trans ((Kp.of (Same.new nl)).trans k2)
    exact w _ _ _ _ (k3.trans (Kp.of (Same.new np))) (R3.same (Same.new np)) (red_B (by omega) (by omega) (by omega))
end
section
variable {P : Program} {w : World} {K : PySem.W.Frag} {mg : Str → Option Value} {base : Heap} {a : Ad}
def sp_l_wide (K : PySem.W.Frag) : Sp := fun vs H Q _ => ∃ (r : Addr), vs = [.ref r] ∧ Rg H r ∧ ∀ v H' n d, Kp r H H' → Rg H' r → FrB K H' v n d 40 → Q v H'
theorem FrB.up {K : PySem.W.Frag} {H : Hp} {v : V} {n d : Int} {B C : Nat} (f : FrB K H v n d B) (h : B ≤ C) : FrB K H v n d C := ⟨f.fr, f.d0, f.g, Nat.lt_of_lt_of_le f.nB (Nat.pow_le_pow_right (by decide) h), Nat.lt_of_lt_of_le f.dB (Nat.pow_le_pow_right (by decide) h)⟩
theorem pow10_12 : (10 : Int) ^ (12 : Int).toNat = 1000000000000 := by decide

theorem ok_l_wide (T : Txt K mg a) : FnOk P w K mg base CX0 4 a.f_l_wide a.fd_l_wide ["_law_rng"] (sp_l_wide K) := by
  have G_l_reduce := ok_l_reduce (P := P) (w := w) (base := base) T
  have G_l_choice := ok_l_choice (P := P) (w := w) (base := base) T
  have G_l_draw := ok_l_draw (P := P) (w := w) (base := base) T
  have G_l_small := ok_l_small (P := P) (w := w) (base := base) T
  refine T.F_l_wide.ok sc_l_wide (fun vs H Q E h => ?_) (fun cdv A outer s H vs Q E hr h => ?_)
  · obtain ⟨r, rfl, _⟩ := h
    rfl
  · obtain ⟨r, rfl, R, w⟩ := h
    refine ⟨_, (pss_cons (ps_set (i := 1) sc_l_wide.nd rfl (by first | exact Or.inl rfl | exact Or.inr rfl) (pe_call G_l_reduce (hr.mono (by first | decide | omega)) (by rfl) T.g_l_reduce T.F_l_reduce.kp T.b_l_reduce .nil pass0 (pa_cons (pe_op op_add (pe_op op_sub (pe_call G_l_draw (hr.mono (by first | decide | omega)) (by rfl) T.g_l_draw T.F_l_draw.kp T.b_l_draw .nil pass0 (pa_cons (pv 0) (pa_cons (pe_op op_sub (pe_op op_mul pe_int (pe_op op_pow pe_int pe_int)) pe_int) pa_nil))) (pe_op op_pow pe_int pe_int)) pe_int) (pa_cons (pe_op op_add pe_int (pe_call G_l_draw (hr.mono (by first | decide | omega)) (by rfl) T.g_l_draw T.F_l_draw.kp T.b_l_draw .nil pass0 (pa_cons (pv 0) (pa_cons (pe_op op_sub (pe_op op_pow pe_int pe_int) pe_int) pa_nil)))) pa_nil))))
          (pss_one (ps_ret (pe_call G_l_choice (hr.mono (by first | decide | omega)) (by rfl) T.g_l_choice T.F_l_choice.kp T.b_l_choice .nil pass0 (pa_cons (pv 0) (pa_cons (pe_lst (pa_cons (pv 1) (pa_cons (pe_call G_l_small (hr.mono (by first | decide | omega)) (by rfl) T.g_l_small T.F_l_small.kp T.b_l_small .nil pass0 (pa_cons (pv 0) pa_nil)) (pa_cons (pe_call G_l_small (hr.mono (by first | decide | omega)) (by rfl) T.g_l_small T.F_l_small.kp T.b_l_small .nil pass0 (pa_cons (pv 0) pa_nil)) (pa_cons (pe_tup (pa_cons pe_int (pa_cons pe_int pa_nil))) (pa_cons (pe_tup (pa_cons pe_int (pa_cons pe_int pa_nil))) (pa_cons (pe_tup (pa_cons (pe_op op_sub (pe_op op_pow pe_int pe_int) pe_int) (pa_cons pe_int pa_nil))) pa_nil))))))) pa_nil)))))), ?_⟩
    have e2 : (2 : Int) * 10 ^ (12 : Int).toNat - 1 = 1999999999999 := by decide
    have e1 : (10 : Int) ^ (12 : Int).toNat - 1 = 999999999999 := by decide
    have B40 : (2 : Nat) ^ 40 = 1099511627776 := by decide
    refine ⟨.ref r, rfl, 10, 12, rfl, rfl, ⟨by decide, by decide, by decide⟩, 2, _, rfl, rfl, .inl ⟨by decide, by decide⟩, _, 1, rfl, rfl, r, _, rfl, R, by decide, by decide, fun x1 H1 x0 xl k1 R1 => ?_⟩
    refine ⟨10, 12, rfl, rfl, ⟨by decide, by decide, by decide⟩, x1, _, rfl, rfl, _, 1, rfl, rfl, ?_⟩
    refine ⟨.ref r, rfl, 10, 12, rfl, rfl, ⟨by decide, by decide, by decide⟩, _, 1, rfl, rfl, r, _, rfl, R1, by decide, by decide, fun y1 H2 y0 yl k2 R2 => ?_⟩
    rw [e2] at xl
    rw [e1] at yl
    rw [pow10_12]
    refine ⟨1, y1, rfl, rfl, _, _, rfl, by omega, Nat.lt_of_lt_of_le (show (1 + y1).natAbs < 2 ^ 40 by omega) (Nat.pow_le_pow_right (by decide) (by decide)), fun p np => ?_⟩
    have fp := red_B (K := K) (H := H2) (p := p) (n := x1 - 1000000000000 + 1) (d := 1 + y1) (B := 40) (by omega) (by omega) (by omega)
    generalize hH3 : upd H2 p (.tup [.int (red (x1 - 1000000000000 + 1) (1 + y1)).1, .int (red (x1 - 1000000000000 + 1) (1 + y1)).2]) = H3 at fp
    have R3 : Rg H3 r := by rw [← hH3]; exact R2.same (Same.new np)
    have k3 : Kp r H H3 := by rw [← hH3]; exact (k1.trans k2).trans (Kp.of (Same.new np))
    refine ⟨.ref r, rfl, .ref p, rfl, .ref r, rfl, r, rfl, R3, fun v4 H4 n4 d4 k4 R4 f4 => ?_⟩
    refine ⟨.ref r, rfl, r, rfl, R4, fun v5 H5 n5 d5 k5 R5 f5 => ?_⟩
    refine ⟨sz (by show 2 ≤ 100000; decide), fun q1 nq1 => ⟨sz (by show 2 ≤ 100000; decide), fun q2 nq2 => ?_⟩⟩
    refine ⟨10, 12, rfl, rfl, ⟨by decide, by decide, by decide⟩, _, 1, rfl, rfl, sz (by show 2 ≤ 100000; decide), fun q3 nq3 => ⟨sz (by show 6 ≤ 100000; decide), fun l nl => ?_⟩⟩
    have s1 := Same.new (o := .tup [.int 0, .int 1]) nq1
    have s2 := Same.new (o := .tup [.int 1, .int 1]) nq2
    have s3 := Same.new (o := .tup [.int ((10 : Int) ^ (12 : Int).toNat - 1), .int 1]) nq3
    have g1 : FrB K (upd H5 q1 (.tup [.int 0, .int 1])) (.ref q1) 0 1 40 := ⟨Fr.new, by decide, by decide, by decide, by decide⟩
    have g2 : FrB K (upd (upd H5 q1 (.tup [.int 0, .int 1])) q2 (.tup [.int 1, .int 1])) (.ref q2) 1 1 40 := ⟨Fr.new, by decide, by decide, by decide, by decide⟩
    have g3 : FrB K (upd (upd (upd H5 q1 (.tup [.int 0, .int 1])) q2 (.tup [.int 1, .int 1])) q3 (.tup [.int ((10 : Int) ^ (12 : Int).toNat - 1), .int 1])) (.ref q3) ((10 : Int) ^ (12 : Int).toNat - 1) 1 40 := ⟨Fr.new, by decide, by decide, by decide, by decide⟩
    have s4 := Same.new (o := .lst [.ref p, v4, v5, .ref q1, .ref q2, .ref q3]) nl
    have sA := ((s1.trans s2).trans s3).trans s4
    have R6 := R5.same sA
    have kA := (((k3.trans k4).trans k5).trans (Kp.of sA))
    have hl := R5.same ((s1.trans s2).trans s3)
    have nlr : l ≠ r := hl.ne nl
    refine ⟨r, .ref l, _, rfl, R6, .inl ⟨l, rfl, nlr, .inl (SqL.of upd_same)⟩, by show 0 < 6; decide, by show 6 ≤ 100000; decide, fun x hx H7 k7 R7 => ?_⟩
    have fin : ∃ n d, FrB K H7 x n d 40 := by
      have up : ∀ {v n d B}, FrB K H5 v n d B → B ≤ 40 → FrB K H7 v n d 40 := fun f h => ((f.same sA).up h).kp R6 k7
      simp only [List.mem_cons, List.not_mem_nil, or_false] at hx
      rcases hx with h | h | h | h | h | h
      · rw [h]; exact ⟨_, _, up ((fp.kp R3 k4).kp R4 k5) (by decide)⟩
      · rw [h]; exact ⟨_, _, up (f4.kp R4 k5) (by decide)⟩
      · rw [h]; exact ⟨_, _, up f5 (by decide)⟩
      · rw [h]; exact ⟨_, _, (g1.same ((s2.trans s3).trans s4)).kp R6 k7⟩
      · rw [h]; exact ⟨_, _, (g2.same (s3.trans s4)).kp R6 k7⟩
      · rw [h]; exact ⟨_, _, (g3.same s4).kp R6 k7⟩
    obtain ⟨n, d, f⟩ := fin
    exact w _ _ n d (kA.trans k7) R7 f
end
section
variable {P : Program} {w : World} {K : PySem.W.Frag} {mg : Str → Option Value} {base : Heap} {a : Ad}
def sp_l_letters (_ : PySem.W.Frag) : Sp := fun vs H Q _ => vs = [] ∧ Q (.str "abcdefghijklmnopqrstuvwxyz") H

theorem ok_l_letters (T : Txt K mg a) : FnOk P w K mg base CX0 1 a.f_l_letters a.fd_l_letters [] (sp_l_letters K) := by
  refine T.F_l_letters.ok sc_l_letters (fun vs H Q E h => ?_) (fun cdv A outer s H vs Q E hr h => ?_)
  · rw [h.1]; rfl
  · obtain ⟨rfl, w⟩ := h
    refine ⟨_, (pss_one (ps_ret pe_str)), ?_⟩
    exact w
end
section
variable {P : Program} {w : World} {K : PySem.W.Frag} {mg : Str → Option Value} {base : Heap} {a : Ad}
def sp_l_is_name (K : PySem.W.Frag) : Sp := fun vs H Q _ => ∃ z : Str, vs = [.str z] ∧ z.length ≤ 100000 ∧ ∀ H', Same H H' → Q (.bl (nameB z)) H'

theorem ok_l_is_name (T : Txt K mg a) : FnOk P w K mg base CX0 2 a.f_l_is_name a.fd_l_is_name ["_law_text"] (sp_l_is_name K) := by
  have G_l_letters := ok_l_letters (P := P) (w := w) (base := base) T
  refine T.F_l_is_name.ok sc_l_is_name (fun vs H Q E h => ?_) (fun cdv A outer s H vs Q E hr h => ?_)
  · obtain ⟨v, rfl, _⟩ := h
    rfl
  · obtain ⟨z, rfl, hz, w⟩ := h
    refine ⟨_, (pss_cons (ps_if (PW.pt (pw_or (pt_not (pt_chain op_le op_le pe_int (pe_callB call_len (by rfl) T.n_len (by decide +kernel) (pa_cons (pv 0) pa_nil)) pe_int)) (pw_or1 (pt_cmpR op_in_seq (pv 0) (pe_tup (pa_cons pe_str (pa_cons pe_str (pa_cons pe_str (pa_cons pe_str pa_nil))))) (by rfl))))) (pss_one (ps_ret pe_bl)) pss_nil)
          (pss_one (ps_ret (pe_callB (cr_all rfl) (by rfl) T.n_all (by decide +kernel) (pa_cons (pe_lc (own := [("_law_sign", 1)]) (g := gName 1) rfl sc_l_is_name.nd (pi_str (pv 0)) (blkOk_by (own := [("_law_sign", 1)]) (N := ["_law_text", "_law_sign"]) (sc := defScope s_l_is_name) (by decide +kernel)) (fun _ _ _ _ _ => (pg_name (i := 1) sc_l_is_name.nd rfl (Or.inl rfl))) (fun _ _ _ _ _ => pts_nil) (fun _ _ _ _ _ => (pe_cmpR op_in_sign (pv 1) (pe_call0 G_l_letters (hr.mono (by first | decide | omega)) (by rfl) T.g_l_letters T.F_l_letters.kp T.b_l_letters .nil pass0) (by rfl)))) pa_nil))))), ?_⟩
    have no : ∀ H', Same H H' → nameB z = false → Q (.bl false) H' := fun H' s e => by
      have := w H' s
      rw [e] at this
      exact this
    refine ⟨.str z, rfl, .str z, z.length, rfl, ⟨sz hz, rfl⟩, 1, (z.length : Int), rfl, rfl, _, rfl, ite2 (fun e1 => ?_) (fun e1 => ?_)⟩
    rotate_left
    · refine ⟨false, rfl, iteT (iteT (no H (Same.refl H) ?_))⟩
      have : ¬ 1 ≤ z.length := fun y => e1 (decide_eq_true (by omega))
      unfold nameB
      rw [decide_eq_false this]
      rfl
    have l1 : 1 ≤ z.length := by have := of_decide_eq_true e1; omega
    by_cases l2 : z.length ≤ 6
    rotate_left
    · refine ⟨(z.length : Int), 6, rfl, rfl, false, congrArg V.bl (decide_eq_false (by omega)), iteT (iteT (no H (Same.refl H) ?_))⟩
      unfold nameB
      rw [decide_eq_true l1, decide_eq_false l2]
      rfl
    refine ⟨(z.length : Int), 6, rfl, rfl, true, congrArg V.bl (decide_eq_true (by omega)), iteF ?_⟩
    refine ⟨.str z, rfl, sz (by show 4 ≤ 100000; decide), fun p np => ?_⟩
    have s0 := Same.new (o := .tup kws4) np
    refine ⟨p, kws4, rfl, .inr (SqT.of upd_same), rfl, rfl, _, rfl, ite2 (fun e => ?_) (fun e => ?_)⟩
    · refine no _ s0 ?_
      have e' : inV (.str z) kws4 = true := e
      unfold nameB
      rw [e', Bool.not_true, Bool.and_false, Bool.and_false]
    have e' : inV (.str z) kws4 = false := Bool.eq_false_iff.mpr e
    refine ⟨.str z, rfl, z, rfl, fun D nD => ?_⟩
    have nD0 : H D = none := s0.free nD
    refine ⟨fun i m H1 => i + m = z.length ∧ Same H H1 ∧ H1 D = some (.lst (((z.cps.toList.take i).map lowB).map V.bl)), ⟨z.length, by omega, s0.trans (Same.new nD), by rw [upd_same]; rfl⟩, fun i m H1 hW => ?_⟩
    obtain ⟨em, s1, hD⟩ := hW
    by_cases hi : i < z.length
    · refine .inr ⟨(show i < z.cps.size from hi), fun H2 => Same H H2 ∧ H2 D = some (.lst (((z.cps.toList.take (i + 1)).map lowB).map V.bl)), fun H2 hN => ⟨m - 1, by omega, by omega, hN.1, hN.2⟩, fun v H2 hy => ?_⟩
      obtain ⟨rfl, c, hc, rfl⟩ := hy
      have hc2 : z.cps.toList[i]? = some c := by rw [Array.getElem?_toList]; exact hc
      refine ⟨rfl, tYes_if ?_⟩
      refine ⟨.str ⟨#[c]⟩, rfl, rfl, c, "abcdefghijklmnopqrstuvwxyz", rfl, rfl, ?_⟩
      refine ⟨_, hD, ?_, fun x o e => ?_, ?_⟩
      · rw [List.length_map, List.length_map, List.length_take]
        exact szl (by omega)
      · rw [upd_ne (ne_of_none e nD0)]
        exact s1 _ _ e
      · rw [upd_same, abc_mem, tk_more hc2, List.map_append]
        rfl
    · have ei : i = z.length := by omega
      subst ei
      refine .inl ⟨(show z.cps.size ≤ z.length from Nat.le_refl _), ?_⟩
      rw [show z.cps.toList.take z.length = z.cps.toList by rw [← cps_len, List.take_length]] at hD
      refine ⟨D, z.cps.toList.map lowB, rfl, SqL.of hD, ?_⟩
      have ea : (z.cps.toList.map lowB).all id = z.cps.toList.all lowB := by rw [List.all_map]; rfl
      rw [ea]
      have := w H1 s1
      unfold nameB at this
      rw [decide_eq_true l1, decide_eq_true l2, e', Bool.not_false, Bool.and_true, Bool.and_true, Bool.true_and] at this
      exact this
end
section
variable {P : Program} {w : World} {K : PySem.W.Frag} {mg : Str → Option Value} {base : Heap} {a : Ad}
def sp_l_plain (K : PySem.W.Frag) : Sp := fun vs H Q _ => ∃ (l : Addr) (ss : List Str), vs = [.ref l] ∧ SqL K H l (ss.map V.str) ∧ ss.length ≤ 60 ∧ (∀ s ∈ ss, s.length ≤ 1000) ∧ ∀ (b : Bool) H', Same H H' → (b = true → ss.Nodup ∧ ∀ s ∈ ss, nameB s = true) → Q (.bl b) H'

theorem ok_l_plain (T : Txt K mg a) : FnOk P w K mg base CX0 3 a.f_l_plain a.fd_l_plain ["_law_names_here"] (sp_l_plain K) := by
  have G_l_is_name := ok_l_is_name (P := P) (w := w) (base := base) T
  refine T.F_l_plain.ok sc_l_plain (fun vs H Q E h => ?_) (fun cdv A outer s H vs Q E hr h => ?_)
  · obtain ⟨l, ss, rfl, _⟩ := h
    rfl
  · obtain ⟨l, ss, rfl, hS, hl, hs, w⟩ := h
    refine ⟨_, (pss_one (ps_ret (pe_and (pe_cmpR op_eq (StT.pe_lenSetT rfl (by rfl) T.n_len (by rfl) T.n_set (pv 0)) (pe_callB call_len (by rfl) T.n_len (by decide +kernel) (pa_cons (pv 0) pa_nil)) (nomark _)) (pe_one (pe_callB (cr_all rfl) (by rfl) T.n_all (by decide +kernel) (pa_cons (pe_lc (own := [("_law_name", 1)]) (g := gName 1) rfl sc_l_plain.nd (pi_list (pv 0)) (blkOk_by (own := [("_law_name", 1)]) (N := ["_law_names_here", "_law_name"]) (sc := defScope s_l_plain) (by decide +kernel)) (fun _ _ _ _ _ => (pg_name (i := 1) sc_l_plain.nd rfl (Or.inl rfl))) (fun _ _ _ _ _ => pts_nil) (fun _ _ _ _ _ => (pe_call G_l_is_name (hr.mono (by first | decide | omega)) (by rfl) T.g_l_is_name T.F_l_is_name.kp T.b_l_is_name .nil pass0 (pa_cons (pv 1) pa_nil)))) pa_nil)))))), ?_⟩
    refine ⟨.ref l, rfl, l, ss, rfl, hS, by omega, fun m m1 m2 => ?_⟩
    refine ⟨.ref l, rfl, .ref l, (ss.map V.str).length, rfl, .inl ⟨_, hS, rfl⟩, rfl, _, rfl, ite2 (fun e => ?_) (fun e => ?_)⟩
    rotate_left
    · exact w false H (Same.refl H) fun z => by cases z
    have em : m = ss.length := by
      have := V.int.inj (of_decide_eq_true e)
      rw [List.length_map] at this
      omega
    have nd := m2 em
    refine ⟨.ref l, rfl, l, rfl, ⟨_, hS⟩, fun D nD => ?_⟩
    refine lc_list (K := K) (a := l) (xs := ss.map V.str) (fun i H2 => Same H H2 ∧ H2 D = some (.lst (((ss.take i).map nameB).map V.bl))) ⟨Same.new nD, upd_same⟩ (fun i H2 _ z => z.1.seq hS) ?_ ?_
    · rintro i x H2 hx ⟨s2, hD⟩
      obtain ⟨q, hq, rfl⟩ : ∃ q, ss[i]? = some q ∧ x = V.str q := by
        rw [List.getElem?_map] at hx
        cases e : ss[i]? with
        | none => rw [e] at hx; cases hx
        | some q => rw [e] at hx; exact ⟨q, rfl, (Option.some.inj hx).symm⟩
      refine ⟨rfl, tYes_if ?_⟩
      have hql := hs q (List.mem_of_getElem? hq)
      refine ⟨.str q, rfl, q, rfl, by omega, fun H3 s3 => ⟨_, s3 _ _ hD, ?_, fun b o z => ?_, ?_⟩⟩
      · rw [List.length_map, List.length_map, List.length_take]; exact szl (by omega)
      · rw [upd_ne (ne_of_none z nD)]; exact s3 _ _ (s2 _ _ z)
      · rw [upd_same, tk_more hq, List.map_append]; rfl
    · rintro H2 ⟨s2, hD⟩
      rw [List.length_map, List.take_length] at hD
      refine ⟨D, ss.map nameB, rfl, SqL.of hD, ?_⟩
      refine w _ H2 s2 fun z => ⟨nd, fun s hs' => ?_⟩
      rw [List.all_map, List.all_eq_true] at z
      exact z s hs'
end
section
variable {P : Program} {w : World} {K : PySem.W.Frag} {mg : Str → Option Value} {base : Heap} {a : Ad}
def sp_l_names (K : PySem.W.Frag) : Sp := fun vs H Q _ => ∃ (r : Addr) (q : Nat), vs = [.ref r, .int (q : Nat)] ∧ Rg H r ∧ 1 ≤ q ∧ q ≤ 8 ∧ ∀ (l : Addr) (H' : Hp) (ss : List Str), Kp r H H' → Rg H' r → H' l = some (.lst (ss.map V.str)) → l ≠ r → ss.length = q → ss.Nodup → (∀ s ∈ ss, nameB s = true) → Q (.ref l) H'
theorem jn_len : ∀ (ys : List Str), (∀ y ∈ ys, y.length = 1) → (Txt.join "" ys).length = ys.length
  | ys, h => by
    rw [TL.join_eq]
    induction ys with
    | nil => rfl
    | cons y r ih =>
      cases r with
      | nil => exact h y List.mem_cons_self
      | cons z r =>
        have i1 := ih (fun x hx => h x (List.mem_cons_of_mem _ hx))
        show (y ++ "" ++ Str.join "" (z :: r)).length = _
        rw [Str.length_append, Str.length_append, i1, h y List.mem_cons_self]
        show 1 + 0 + (z :: r).length = (y :: z :: r).length
        rw [List.length_cons, List.length_cons, List.length_cons]
        omega
theorem ones_sum : ∀ (ys : List Str), (∀ y ∈ ys, y.length = 1) → (ys.map (·.length)).sum = ys.length
  | [], _ => rfl
  | y :: r, h => by
    rw [List.map_cons, List.sum_cons, ones_sum r (fun x hx => h x (List.mem_cons_of_mem _ hx)), h y List.mem_cons_self, List.length_cons]
    omega
def spare : List Str := ["a", "bb", "ccc", "dddd", "eeeee", "ffffff", "g", "hh"]
theorem spare_nd : spare.Nodup := by decide +kernel
theorem spare_nm : ∀ s ∈ spare, nameB s = true := by decide +kernel
theorem cut_to (xs : List V) (q : Nat) (h : q ≤ xs.length) : cutV xs none (some (q : Int)) = xs.take q := by
  unfold cutV
  rw [HT.sIx_none, show HT.sIx xs.length xs.length (some (q : Int)) = min q xs.length from HT.sIx_nat xs.length xs.length q, List.drop_zero, show min q xs.length - 0 = q by omega]

theorem ok_l_names (T : Txt K mg a) : FnOk P w K mg base CX0 4 a.f_l_names a.fd_l_names ["_law_rng", "_law_quantity"] (sp_l_names K) := by
  have G_l_choice := ok_l_choice (P := P) (w := w) (base := base) T
  have G_l_letters := ok_l_letters (P := P) (w := w) (base := base) T
  have G_l_draw := ok_l_draw (P := P) (w := w) (base := base) T
  have G_l_plain := ok_l_plain (P := P) (w := w) (base := base) T
  refine T.F_l_names.ok sc_l_names (fun vs H Q E h => ?_) (fun cdv A outer s H vs Q E hr h => ?_)
  · obtain ⟨r, q, rfl, _⟩ := h
    rfl
  · obtain ⟨r, q, rfl, R, q1, q8, w⟩ := h
    refine ⟨_, (pss_cons (ps_asg (pe_tup (pa_cons (pe_call0 G_l_letters (hr.mono (by first | decide | omega)) (by rfl) T.g_l_letters T.F_l_letters.kp T.b_l_letters .nil pass0) (pa_cons (pe_op op_add pe_int (pe_call G_l_draw (hr.mono (by first | decide | omega)) (by rfl) T.g_l_draw T.F_l_draw.kp T.b_l_draw .nil pass0 (pa_cons (pv 0) (pa_cons pe_int pa_nil)))) pa_nil))) (pg_tup rfl (pgs_cons (pg_name (i := 2) sc_l_names.nd rfl (by first | exact Or.inl rfl | exact Or.inr rfl)) (pgs_cons (pg_name (i := 3) sc_l_names.nd rfl (by first | exact Or.inl rfl | exact Or.inr rfl)) pgs_nil))))
          (pss_cons (ps_par (i := 4) (j := 5) (by rfl) sc_l_names.nd rfl rfl (by decide) rfl rfl (pa_cons (pe_call G_l_draw (hr.mono (by first | decide | omega)) (by rfl) T.g_l_draw T.F_l_draw.kp T.b_l_draw .nil pass0 (pa_cons (pv 0) (pa_cons (pv 3) pa_nil))) (pa_cons (pe_call G_l_draw (hr.mono (by first | decide | omega)) (by rfl) T.g_l_draw T.F_l_draw.kp T.b_l_draw .nil pass0 (pa_cons (pv 0) (pa_cons pe_int pa_nil))) pa_nil)) (by rfl))
          (pss_cons (ps_set (i := 6) sc_l_names.nd rfl (by first | exact Or.inl rfl | exact Or.inr rfl) (pe_call G_l_choice (hr.mono (by first | decide | omega)) (by rfl) T.g_l_choice T.F_l_choice.kp T.b_l_choice .nil pass0 (pa_cons (pv 0) (pa_cons (pe_lst (pa_cons pe_int (pa_cons pe_int (pa_cons pe_int (pa_cons pe_int (pa_cons pe_int pa_nil)))))) pa_nil))))
          (pss_cons (ps_set (i := 7) sc_l_names.nd rfl (by first | exact Or.inl rfl | exact Or.inr rfl) (pe_join pe_str (pe_lc (own := [("_law_k", 9)]) (g := gName 9) rfl sc_l_names.nd (pi_range1 (by rfl) T.n_range (pa_cons (pv 3) pa_nil)) (blkOk_by (own := [("_law_k", 9)]) (N := ["_law_rng", "_law_quantity", "_law_abc", "_law_width", "_law_pos", "_law_lead", "_law_step", "_law_base", "_law_result", "_law_k", "_law_sign", "_law_name", "_law_cut", "_law_spare"]) (sc := defScope s_l_names) (by decide +kernel)) (fun _ _ _ _ _ => (pg_name (i := 9) sc_l_names.nd rfl (Or.inl rfl))) (fun _ _ _ _ _ => pts_nil) (fun _ _ _ _ _ => (pe_call G_l_choice (hr.mono (by first | decide | omega)) (by rfl) T.g_l_choice T.F_l_choice.kp T.b_l_choice .nil pass0 (pa_cons (pv 0) (pa_cons (pv 2) pa_nil)))))))
          (pss_cons (ps_set (i := 8) sc_l_names.nd rfl (by first | exact Or.inl rfl | exact Or.inr rfl) (pe_lst pa_nil))
          (pss_cons (ps_for PassesOwn.never rfl (pi_range1 (by rfl) T.n_range (pa_cons (pv 1) pa_nil)) (pg_name (i := 9) sc_l_names.nd rfl (by first | exact Or.inl rfl | exact Or.inr rfl)) (pss_cons (ps_set (i := 10) sc_l_names.nd rfl (by first | exact Or.inl rfl | exact Or.inr rfl) (pe_ix ix_str (pv 2) (pe_op op_mod (pe_op op_add (pv 5) (pe_op op_mul (pv 6) (pv 9))) pe_int) (fun _ _ => rfl)))
          (pss_cons (ps_set (i := 11) sc_l_names.nd rfl (by first | exact Or.inl rfl | exact Or.inr rfl) (pe_op op_add_str (pe_op op_add_str (pe_slice sl_str (pv 7) po_none (po_some (pv 4))) (pv 10)) (pe_slice sl_str (pv 7) (po_some (pe_op op_add (pv 4) pe_int)) po_none)))
          (pss_cons (ps_set (i := 12) sc_l_names.nd rfl (by first | exact Or.inl rfl | exact Or.inr rfl) (pe_callB (call_max2 rfl) (by rfl) T.n_max (by decide +kernel) (pa_cons (pe_op op_add (pv 4) pe_int) (pa_cons (pe_op op_sub (pv 3) (pv 9)) pa_nil))))
          (pss_one (ps_expr (pe_bm PySem.F.plainAttrs_list PySem.F.slot_list_append PySem.F.type_list_append mt_append (pv 8) (pa_cons (pe_ifExp (pt_cmpR op_eq (pe_call G_l_draw (hr.mono (by first | decide | omega)) (by rfl) T.g_l_draw T.F_l_draw.kp T.b_l_draw .nil pass0 (pa_cons (pv 0) (pa_cons pe_int pa_nil))) pe_int (nomark _)) (pe_slice sl_str (pv 11) po_none (po_some (pv 12))) (pv 11)) pa_nil))))))))
          (pss_cons (ps_set (i := 13) sc_l_names.nd rfl (by first | exact Or.inl rfl | exact Or.inr rfl) (pe_lst (pa_cons pe_str (pa_cons pe_str (pa_cons pe_str (pa_cons pe_str (pa_cons pe_str (pa_cons pe_str (pa_cons pe_str (pa_cons pe_str pa_nil))))))))))
          (pss_one (ps_ret (pe_ifExp (pt_val (pe_call G_l_plain (hr.mono (by first | decide | omega)) (by rfl) T.g_l_plain T.F_l_plain.kp T.b_l_plain .nil pass0 (pa_cons (pv 8) pa_nil))) (pv 8) (pe_slice sl_list (pv 13) po_none (po_some (pv 1))))))))))))), ?_⟩
    have B40 : True := trivial
    refine ⟨rfl, .ref r, rfl, r, 6, rfl, R, by decide, by decide, fun wd H1 w0 w1 k1 R1 => ⟨1, wd, rfl, rfl, sz (by show 2 ≤ 100000; decide), fun tp ntp => ?_⟩⟩
    have st := Same.new (o := .tup [.str "abcdefghijklmnopqrstuvwxyz", .int (1 + wd)]) ntp
    refine ⟨tp, _, rfl, SqT.of upd_same, rfl, _, _, rfl, _, _, rfl, rfl, ?_⟩
    generalize upd H1 tp (.tup [.str "abcdefghijklmnopqrstuvwxyz", .int (1 + wd)]) = H2 at st
    have R2 := R1.same st
    have k2 := k1.trans (Kp.of st)
    refine ⟨.ref r, rfl, .int (1 + wd), rfl, r, 1 + wd, rfl, R2, by omega, by omega, fun ps H3 p0 p1 k3 R3 => ?_⟩
    refine ⟨.ref r, rfl, r, 26, rfl, R3, by decide, by decide, fun ld H4 l0 l1 k4 R4 => ?_⟩
    refine ⟨_, _, rfl, ?_⟩
    refine ⟨.ref r, rfl, sz (by show 5 ≤ 100000; decide), fun cl ncl => ?_⟩
    have sc := Same.new (o := .lst [.int 1, .int 3, .int 5, .int 7, .int 9]) ncl
    refine ⟨r, .ref cl, _, rfl, R4.same sc, .inl ⟨cl, rfl, R4.ne ncl, .inl (SqL.of upd_same)⟩, by show 0 < 5; decide, by show 5 ≤ 100000; decide, fun x hx H5 k5 R5 => ?_⟩
    obtain ⟨sp, rfl, sp0, sp1⟩ : ∃ j : Int, x = .int j ∧ 0 ≤ j ∧ j < 10 := by
      simp only [List.mem_cons, List.not_mem_nil, or_false] at hx
      rcases hx with h | h | h | h | h
      · exact ⟨1, h, by decide, by decide⟩
      · exact ⟨3, h, by decide, by decide⟩
      · exact ⟨5, h, by decide, by decide⟩
      · exact ⟨7, h, by decide, by decide⟩
      · exact ⟨9, h, by decide, by decide⟩
    have k05 := (k2.trans (k3.trans k4)).trans ((Kp.of sc).trans k5)
    -- the base
    refine ⟨⟨_, rfl⟩, .int (1 + wd), rfl, 1 + wd, rfl, by omega, by omega, fun D nD => ?_⟩
    have Dr : D ≠ r := R5.ne nD
    refine ⟨fun i m H6 => i + m = (1 + wd).toNat ∧ Kp r H5 H6 ∧ Rg H6 r ∧ ∃ ys : List Str, H6 D = some (.lst (ys.map V.str)) ∧ ys.length = i ∧ ∀ y ∈ ys, y.length = 1, ⟨(1 + wd).toNat, by omega, Kp.of (Same.new nD), R5.same (Same.new nD), [], upd_same, rfl, fun y hy => by cases hy⟩, fun i m H6 hW => ?_⟩
    obtain ⟨em, k6, R6, ys, hD, hyl, hy1⟩ := hW
    by_cases hi : i < (1 + wd).toNat
    · refine .inr ⟨hi, fun H7 => Kp r H5 H7 ∧ Rg H7 r ∧ ∃ ys : List Str, H7 D = some (.lst (ys.map V.str)) ∧ ys.length = i + 1 ∧ ∀ y ∈ ys, y.length = 1, fun H7 hN => ⟨m - 1, by omega, by omega, hN⟩, fun v H7 hy => ?_⟩
      obtain ⟨rfl, rfl⟩ := hy
      refine ⟨rfl, tYes_if ?_⟩
      refine ⟨.ref r, rfl, .str "abcdefghijklmnopqrstuvwxyz", rfl, r, .str "abcdefghijklmnopqrstuvwxyz", _, rfl, R6, .inr ⟨_, rfl, rfl⟩, by decide +kernel, by decide +kernel, fun x hx H8 k8 R8 => ?_⟩
      obtain ⟨c, _, rfl⟩ := List.mem_map.mp hx
      refine ⟨_, k8.1 _ _ Dr hD, by rw [List.length_map]; exact szl (by omega), (k6.trans k8).put (H := H5) nD Dr, R5.put nD (k6.trans k8) R8, ys ++ [⟨#[c]⟩], ?_, ?_, ?_⟩
      · rw [upd_same, List.map_append]; rfl
      · rw [List.length_append, hyl]; rfl
      · intro y hy
        rcases List.mem_append.mp hy with h | h
        · exact hy1 y h
        · rw [List.mem_singleton.mp h]; rfl
    have ei : i = (1 + wd).toNat := by omega
    subst ei
    refine .inl ⟨Nat.le_refl _, _, D, ys, rfl, rfl, .inl (SqL.of hD), ?_, ?_⟩
    · rw [ones_sum ys hy1]
      show ys.length + ys.length * 0 ≤ _
      omega
    have jl : (Txt.join "" ys).length = (1 + wd).toNat := by rw [jn_len ys hy1, hyl]
    generalize Txt.join "" ys = bs at jl
    have la := Str.length_append
    -- the names
    refine ⟨sz (by show 0 ≤ 100000; decide), fun rl nrl => ?_⟩
    have rlr : rl ≠ r := R6.ne nrl
    have sr := Same.new (o := .lst []) nrl
    refine ⟨.int (q : Nat), rfl, (q : Int), rfl, by omega, by omega, ?_⟩
    rw [Int.toNat_natCast]
    refine for_range (n := q) (fun i σ H7 => ∃ y9 y10 y11 y12, σ = [some (.ref r), some (.int (q : Nat)), some (.str "abcdefghijklmnopqrstuvwxyz"), some (.int (1 + wd)), some (.int ps), some (.int ld), some (.int sp), some (.str bs), some (.ref rl), y9, y10, y11, y12, none] ∧ Kp r H6 H7 ∧ Rg H7 r ∧ ∃ ss : List Str, H7 rl = some (.lst (ss.map V.str)) ∧ ss.length = i ∧ ∀ s ∈ ss, s.length ≤ 20) ⟨none, none, none, none, rfl, Kp.of sr, R6.same sr, [], upd_same, rfl, fun s hs => by cases hs⟩ ?_ ?_
    · rintro i σ H7 hi7 ⟨y9, y10, y11, y12, rfl, k7, R7, ss, hrl, hsl, hs⟩
      have z0 : 0 ≤ (ld + sp * (0 + (i : Int))) % 26 := Int.emod_nonneg _ (by decide)
      have z1 : (ld + sp * (0 + (i : Int))) % 26 < 26 := Int.emod_lt_of_pos _ (by decide)
      obtain ⟨c, hc, _⟩ := at_int (xs := (("abcdefghijklmnopqrstuvwxyz" : Str)).cps.toList) z0 (by rw [show (("abcdefghijklmnopqrstuvwxyz" : Str)).cps.toList.length = 26 by decide +kernel]; exact z1)
      refine ⟨.str "abcdefghijklmnopqrstuvwxyz", rfl, .int ld, rfl, .int sp, rfl, .int (0 + (i : Int)), rfl, sp, _, rfl, rfl, .inl ⟨by omega, by omega⟩, ld, _, rfl, rfl, _, 26, rfl, rfl, (show (0 : Int) < 26 by decide), _, _, c, rfl, rfl, by decide +kernel, hc, ?_⟩
      have c1 := cutS_length bs none (some ps)
      have c2 := cutS_length bs (some (ps + 1)) none
      have o1 : (⟨#[c]⟩ : Str).length = 1 := rfl
      refine ⟨.str bs, rfl, .int ps, rfl, ps, rfl, bs, rfl, sz (by omega), .str ⟨#[c]⟩, rfl, _, _, rfl, rfl, sz (by omega), .str bs, rfl, .int ps, rfl, _, _, rfl, rfl, _, rfl, bs, rfl, sz (by omega), _, _, rfl, rfl, sz (by rw [la]; omega), ?_⟩
      have nl : (cutS bs none (some ps) ++ ⟨#[c]⟩ ++ cutS bs (some (ps + 1)) none).length ≤ 20 := by rw [la, la]; omega
      generalize cutS bs none (some ps) ++ ⟨#[c]⟩ ++ cutS bs (some (ps + 1)) none = nm at nl
      refine ⟨.int ps, rfl, _, _, rfl, rfl, .int (1 + wd), rfl, .int (0 + (i : Int)), rfl, _, _, rfl, rfl, _, _, rfl, ?_⟩
      have c3 := fun j => cutS_length nm none (some j)
      have fin : ∀ (v : Str) (H8 : Hp), v.length ≤ 20 → Kp r H7 H8 → Rg H8 r → rAppend (.ref rl) [.str v] H8 (fun _ H9 => ∃ (y9 y10 y11 y12 : Option V), ([some (.ref r), some (.int (q : Nat)), some (.str "abcdefghijklmnopqrstuvwxyz"), some (.int (1 + wd)), some (.int ps), some (.int ld), some (.int sp), some (.str bs), some (.ref rl), some (.int (0 + (i : Int))), some (.str ⟨#[c]⟩), some (.str nm), some (.int (if 1 + wd - (0 + (i : Int)) > ps + 1 then 1 + wd - (0 + (i : Int)) else ps + 1)), none] : List (Option V)) = [some (.ref r), some (.int (q : Nat)), some (.str "abcdefghijklmnopqrstuvwxyz"), some (.int (1 + wd)), some (.int ps), some (.int ld), some (.int sp), some (.str bs), some (.ref rl), y9, y10, y11, y12, none] ∧ Kp r H6 H9 ∧ Rg H9 r ∧ ∃ ss : List Str, H9 rl = some (.lst (ss.map V.str)) ∧ ss.length = i + 1 ∧ ∀ s ∈ ss, s.length ≤ 20) := by
        intro v H8 lv k8 R8
        have h8 := k8.1 _ _ rlr hrl
        refine ⟨rl, _, _, rfl, rfl, h8, by rw [List.length_map]; exact szl (by omega), _, _, _, _, rfl, (k7.trans k8).put (H := H6) nrl rlr, R6.put nrl (k7.trans k8) R8, ss ++ [v], by rw [upd_same, List.map_append]; rfl, by rw [List.length_append, hsl]; rfl, fun s hs' => ?_⟩
        rcases List.mem_append.mp hs' with z | z
        · exact hs s z
        · rw [List.mem_singleton.mp z]; exact lv
      refine ⟨.ref rl, rfl, .inl ⟨rfl, _, SqL.of hrl⟩, .ref r, rfl, r, 3, rfl, R7, by decide, by decide, fun z H8 y0 y1 k8 R8 => ⟨rfl, _, rfl, ite2 (fun e => ?_) (fun e => ?_)⟩⟩
      · exact ⟨.str nm, rfl, .int _, rfl, _, rfl, nm, rfl, sz (by omega), fin _ H8 (Nat.le_trans (c3 _) nl) k8 R8⟩
      · exact ⟨.str nm, rfl, fin _ H8 nl k8 R8⟩
    · rintro σ H7 ⟨y9, y10, y11, y12, rfl, k7, R7, ss, hrl, hsl, hs⟩
      refine ⟨sz (by show 8 ≤ 100000; decide), fun sl nsl => ?_⟩
      have ssl := Same.new (o := .lst (spare.map V.str)) nsl
      have R8 : Rg (upd H7 sl (.lst (spare.map V.str))) r := R7.same ssl
      have k07 := (k05.trans k6).trans (k7.trans (Kp.of ssl))
      refine ⟨.ref rl, rfl, rl, ss, rfl, SqL.of (ssl _ _ hrl), by omega, fun s h => Nat.le_trans (hs s h) (by decide), fun b H8 s8 hb => ⟨b, rfl, ?_⟩⟩
      cases b with
      | true =>
        obtain ⟨n1, n2⟩ := hb rfl
        exact iteT ⟨.ref rl, rfl, w rl H8 ss (k07.trans (Kp.of s8)) (R8.same s8) (s8 _ _ (ssl _ _ hrl)) rlr (by omega) n1 n2⟩
      | false =>
        refine iteF ⟨.ref sl, rfl, .int (q : Nat), rfl, (q : Int), rfl, sl, _, rfl, SqL.of (s8 _ _ upd_same), fun p np => ?_⟩
        rw [cut_to _ q (by show q ≤ 8; exact q8)]
        have sp9 := Same.new (o := .lst ((spare.map V.str).take q)) np
        refine w p _ (spare.take q) ((k07.trans (Kp.of s8)).trans (Kp.of sp9)) ((R8.same s8).same sp9) (by rw [upd_same, List.map_take]; rfl) ((R8.same s8).ne np) ?_ ?_ fun s h => spare_nm s (List.mem_of_mem_take h)
        · rw [List.length_take]
          show min q 8 = q
          omega
        · exact spare_nd.sublist (List.take_sublist _ _)
end
section
variable {P : Program} {w : World} {K : PySem.W.Frag} {mg : Str → Option Value} {base : Heap} {a : Ad}
def sp_l_shares (K : PySem.W.Frag) : Sp := fun vs H Q _ => ∃ (r : Addr) (q : Nat), vs = [.ref r, .int (q : Nat)] ∧ Rg H r ∧ q ≤ 6 ∧ ∀ l H' xs ws, Kp r H H' → Rg H' r → H' l = some (.lst xs) → l ≠ r → Frs K H' xs ws 40 → ws.length = q → ShW ws → Q (.ref l) H'
theorem sum_pos : ∀ {is : List Int}, (∀ i ∈ is, 1 ≤ i ∧ i ≤ 4) → (is.length : Int) ≤ is.sum ∧ is.sum ≤ 4 * (is.length : Int)
  | [], _ => by simp
  | i :: is, h => by
    have h1 := h i List.mem_cons_self
    have h2 := sum_pos (is := is) fun j hj => h j (List.mem_cons_of_mem _ hj)
    rw [List.sum_cons, List.length_cons]
    omega

theorem ok_l_shares (T : Txt K mg a) : FnOk P w K mg base CX0 2 a.f_l_shares a.fd_l_shares ["_law_rng", "_law_quantity"] (sp_l_shares K) := by
  have G_l_reduce := ok_l_reduce (P := P) (w := w) (base := base) T
  have G_l_draw := ok_l_draw (P := P) (w := w) (base := base) T
  refine T.F_l_shares.ok sc_l_shares (fun vs H Q E h => ?_) (fun cdv A outer s H vs Q E hr h => ?_)
  · obtain ⟨r, q, rfl, _⟩ := h
    rfl
  · obtain ⟨r, q, rfl, R, hq, w⟩ := h
    refine ⟨_, (pss_cons (ps_set (i := 2) sc_l_shares.nd rfl (by first | exact Or.inl rfl | exact Or.inr rfl) (pe_lc (own := [("_law_k", 3)]) (g := gName 3) rfl sc_l_shares.nd (pi_range1 (by rfl) T.n_range (pa_cons (pv 1) pa_nil)) (blkOk_by (own := [("_law_k", 3)]) (N := ["_law_rng", "_law_quantity", "_law_weights", "_law_k", "_law_one"]) (sc := defScope s_l_shares) (by decide +kernel)) (fun _ _ _ _ _ => (pg_name (i := 3) sc_l_shares.nd rfl (Or.inl rfl))) (fun _ _ _ _ _ => pts_nil) (fun _ _ _ _ _ => (pe_op op_add pe_int (pe_call G_l_draw (hr.mono (by first | decide | omega)) (by rfl) T.g_l_draw T.F_l_draw.kp T.b_l_draw .nil pass0 (pa_cons (pv 0) (pa_cons pe_int pa_nil)))))))
          (pss_one (ps_ret (pe_lc (own := [("_law_one", 4)]) (g := gName 4) rfl sc_l_shares.nd (pi_list (pv 2)) (blkOk_by (own := [("_law_one", 4)]) (N := ["_law_rng", "_law_quantity", "_law_weights", "_law_k", "_law_one"]) (sc := defScope s_l_shares) (by decide +kernel)) (fun _ _ _ _ _ => (pg_name (i := 4) sc_l_shares.nd rfl (Or.inl rfl))) (fun _ _ _ _ _ => pts_nil) (fun _ _ _ _ _ => (pe_call G_l_reduce (hr.mono (by first | decide | omega)) (by rfl) T.g_l_reduce T.F_l_reduce.kp T.b_l_reduce .nil pass0 (pa_cons (pv 4) (pa_cons (pe_callB (crSumK (K := K) rfl rfl) (by rfl) T.n_sum (by decide +kernel) (pa_cons (pv 2) pa_nil)) pa_nil)))))))), ?_⟩
    refine ⟨.int (q : Nat), rfl, (q : Int), rfl, by omega, by omega, fun D nD => ?_⟩
    have Dr : D ≠ r := R.ne nD
    refine ⟨fun i m H3 => i + m = q ∧ Kp r H H3 ∧ Rg H3 r ∧ ∃ is : List Int, H3 D = some (.lst (is.map V.int)) ∧ is.length = i ∧ ∀ j ∈ is, 1 ≤ j ∧ j ≤ 4, ⟨q, by omega, Kp.of (Same.new nD), R.same (Same.new nD), [], upd_same, rfl, fun j hj => by cases hj⟩, fun i m H3 hW => ?_⟩
    obtain ⟨em, k3, R3, is, hD, hl, hi⟩ := hW
    by_cases hlt : i < q
    · refine .inr ⟨(show i < ((q : Nat) : Int).toNat by omega), fun H4 => Kp r H H4 ∧ Rg H4 r ∧ ∃ is : List Int, H4 D = some (.lst (is.map V.int)) ∧ is.length = i + 1 ∧ ∀ j ∈ is, 1 ≤ j ∧ j ≤ 4, fun H4 hN => ⟨m - 1, by omega, by omega, hN⟩, fun v H4 hy => ?_⟩
      obtain ⟨rfl, rfl⟩ := hy
      refine ⟨rfl, tYes_if ?_⟩
      refine ⟨.ref r, rfl, r, 4, rfl, R3, by decide, by decide, fun x H5 x0 x1 k5 R5 => ?_⟩
      refine ⟨1, x, rfl, rfl, _, k5.1 _ _ Dr hD, by rw [List.length_map]; exact szl (by omega), (k3.trans k5).put (H := H) nD Dr, R.put nD (k3.trans k5) R5, is ++ [1 + x], ?_, ?_, ?_⟩
      · rw [upd_same, List.map_append]; rfl
      · rw [List.length_append, hl]; rfl
      · intro j hj
        rcases List.mem_append.mp hj with h | h
        · exact hi j h
        · rw [List.mem_singleton.mp h]; omega
    · have ei : i = q := by omega
      subst ei
      refine .inl ⟨(show ((i : Nat) : Int).toNat ≤ i by omega), ?_⟩
      have sp := sum_pos hi
      refine ⟨.ref D, rfl, D, rfl, ⟨_, SqL.of hD⟩, fun L nL => ?_⟩
      have Lr : L ≠ r := R3.ne nL
      refine lc_list (K := K) (a := D) (xs := is.map V.int) (fun j H4 => Same H3 H4 ∧ ∃ xs, H4 L = some (.lst xs) ∧ Frs K H4 xs ((is.take j).map fun z => red z is.sum) 40) ⟨Same.new nL, [], upd_same, Frs.nil'⟩ (fun j H4 _ z => SqL.of (z.1 _ _ hD)) ?_ ?_
      · rintro j y H4 hy ⟨s4, xs, hL, hF⟩
        obtain ⟨z, hz, rfl⟩ : ∃ z, is[j]? = some z ∧ y = V.int z := by
          rw [List.getElem?_map] at hy
          cases e : is[j]? with
          | none => rw [e] at hy; cases hy
          | some z => rw [e] at hy; exact ⟨z, rfl, (Option.some.inj hy).symm⟩
        have zb := hi z (List.mem_of_getElem? hz)
        have jl : j < is.length := (List.getElem?_eq_some_iff.mp hz).1
        have B : (2 : Nat) ^ 40 = 1099511627776 := by decide
        refine ⟨rfl, tYes_if ?_⟩
        refine ⟨.int z, rfl, .ref D, rfl, D, is, rfl, SqL.of (s4 _ _ hD), z, is.sum, rfl, by omega, Nat.lt_of_lt_of_le (show is.sum.natAbs < 2 ^ 40 by omega) (Nat.pow_le_pow_right (by decide) (by decide)), fun p np => ?_⟩
        have sp4 := Same.new (o := .tup [.int (red z is.sum).1, .int (red z is.sum).2]) np
        have fz := red_B (K := K) (H := H4) (p := p) (n := z) (d := is.sum) (B := 40) (by omega) (by omega) (by omega)
        have hL4 := sp4 _ _ hL
        have xl : xs.length = j := by rw [hF.1, List.length_map, List.length_take]; omega
        refine ⟨xs, hL4, by rw [xl]; exact szl (by omega), fun b o e => ?_, xs ++ [.ref p], upd_same, ?_⟩
        · rw [upd_ne (ne_of_none e nL)]; exact sp4 _ _ (s4 _ _ e)
        · rw [tk_more hz]
          exact ((hF.same sp4).app' (Frs.one' fz)).put' hL4
      · rintro H4 ⟨s4, xs, hL, hF⟩
        rw [List.length_map, List.take_length] at hF
        refine w L H4 xs _ (k3.trans (Kp.of s4)) (R3.same s4) hL Lr hF (by rw [List.length_map, hl]) ⟨is, hi, by omega, rfl⟩
end
section
variable {P : Program} {w : World} {K : PySem.W.Frag} {mg : Str → Option Value} {base : Heap} {a : Ad}
def spTerm (K : PySem.W.Frag) : Nat → Sp
  | 0 => fun _ _ _ _ => False
  | n + 1 => fun vs H Q _ => ∃ (r nl : Addr) (ss : List Str) (d : Int), vs = [.ref r, .ref nl, .int d] ∧ Rg H r ∧ nl ≠ r ∧ SqL K H nl (ss.map V.str) ∧ 0 < ss.length ∧ ss.length ≤ 60 ∧ d ≤ (n : Int) + 1 ∧ ∀ v H' t, Kp r H H' → Rg H' r → TmAt K H' (n + 1) v t → Good ss (n + 1) t → Q v H'
def sp_l_term (K : PySem.W.Frag) : Sp := spTerm K 4
/-- terms drawn one by one into the list at D -/
def Drawn1 (K : PySem.W.Frag) (ss : List Str) (n : Nat) (r D : Addr) (H0 : Hp) (i : Nat) (H3 : Hp) : Prop := Kp r H0 H3 ∧ Rg H3 r ∧ ∃ xs ts, H3 D = some (.lst xs) ∧ xs.length = i ∧ All2 (TmAt K H3 n) xs ts ∧ ∀ t ∈ ts, Good ss n t
theorem Drawn1.start {K : PySem.W.Frag} {ss : List Str} {n : Nat} {r D : Addr} {H0 : Hp} (R : Rg H0 r) (nD : H0 D = none) : Drawn1 K ss n r D H0 0 (upd H0 D (.lst [])) :=
  ⟨Kp.of (Same.new nD), R.same (Same.new nD), [], [], upd_same, rfl, All2.nil, fun t h => by cases h⟩
theorem Drawn1.more {K : PySem.W.Frag} {ss : List Str} {n : Nat} {r D : Addr} {H0 H3 H5 : Hp} {i : Nat} {x : V} {t : Tm} (R : Rg H0 r) (nD : H0 D = none) (hi : i < 1000) (h : Drawn1 K ss n r D H0 i H3) (k5 : Kp r H3 H5) (R5 : Rg H5 r) (ht : TmAt K H5 n x t) (hg : Good ss n t) :
    ∃ acc, H5 D = some (.lst acc) ∧ acc.length < sizeLine ∧ Drawn1 K ss n r D H0 (i + 1) (upd H5 D (.lst (acc ++ [x]))) := by
  obtain ⟨k3, R3, xs, ts, hD, hl, hA, hG⟩ := h
  have Dr : D ≠ r := R.ne nD
  have hD5 := k5.1 _ _ Dr hD
  refine ⟨xs, hD5, by rw [hl]; exact szl (by omega), (k3.trans k5).put (H := H0) nD Dr, R.put nD (k3.trans k5) R5, xs ++ [x], ts ++ [t], upd_same, by rw [List.length_append, hl]; rfl, ?_, fun u hu => ?_⟩
  · exact ((hA.mono fun _ _ z => z.kp R3 k5).snoc ht).mono fun _ _ z => z.put hD5
  · rcases List.mem_append.mp hu with z | z
    · exact hG u z
    · rw [List.mem_singleton.mp z]; exact hg

theorem ok_l_term_n (T : Txt K mg a) : ∀ n, FnOk P w K mg base CX0 (n + 4) a.f_l_term a.fd_l_term ["_law_rng", "_law_names_here", "_law_deep"] (spTerm K n)
  | 0 => fn_false
  | n + 1 => by
    have G_l_draw := ok_l_draw (P := P) (w := w) (base := base) T
    have G_l_choice := ok_l_choice (P := P) (w := w) (base := base) T
    have G_l_small := ok_l_small (P := P) (w := w) (base := base) T
    have G_l_shares := ok_l_shares (P := P) (w := w) (base := base) T
    have G_l_term := ok_l_term_n T n
    refine T.F_l_term.ok sc_l_term (fun vs H Q E h => ?_) (fun cdv A outer s H vs Q E hr h => ?_)
    · obtain ⟨r, nl, ss, d, rfl, _⟩ := h
      rfl
    obtain ⟨r, nl, ss, d, rfl, R, nlr, hS, s0, s1, hd, w⟩ := h
    refine ⟨_, (pss_cons (ps_set (i := 3) sc_l_term.nd rfl (by first | exact Or.inl rfl | exact Or.inr rfl) (pe_call G_l_draw (hr.mono (by first | decide | omega)) (by rfl) T.g_l_draw T.F_l_draw.kp T.b_l_draw .nil pass0 (pa_cons (pv 0) (pa_cons pe_int pa_nil))))
      (pss_cons (ps_if (PW.pt (pw_or (pt_cmpR op_lt (pv 2) pe_int (nomark _)) (pw_or1 (pt_cmpR op_eq (pv 3) pe_int (nomark _))))) (pss_one (ps_ret (pe_tup (pa_cons pe_str (pa_cons (pe_call G_l_choice (hr.mono (by first | decide | omega)) (by rfl) T.g_l_choice T.F_l_choice.kp T.b_l_choice .nil pass0 (pa_cons (pv 0) (pa_cons (pv 1) pa_nil))) pa_nil))))) pss_nil)
      (pss_cons (ps_if (pt_cmpR op_lt (pv 3) pe_int (nomark _)) (pss_one (ps_ret (pe_tup (pa_cons pe_str (pa_cons (pe_call G_l_term (hr.mono (by first | decide | omega)) (by rfl) T.g_l_term T.F_l_term.kp T.b_l_term .nil pass0 (pa_cons (pv 0) (pa_cons (pv 1) (pa_cons (pe_op op_sub (pv 2) pe_int) pa_nil)))) (pa_cons (pe_call G_l_small (hr.mono (by first | decide | omega)) (by rfl) T.g_l_small T.F_l_small.kp T.b_l_small .nil pass0 (pa_cons (pv 0) pa_nil)) pa_nil)))))) pss_nil)
      (pss_cons (ps_if (pt_cmpR op_eq (pv 3) pe_int (nomark _)) (pss_one (ps_ret (pe_callTy call_tuple_of (by rfl) T.n_tuple (by decide +kernel) (pa_cons (pe_op op_cat (pe_lst (pa_cons pe_str pa_nil)) (pe_lc (own := [("_law_k", 6)]) (g := gName 6) rfl sc_l_term.nd (pi_range1 (by rfl) T.n_range (pa_cons pe_int pa_nil)) (blkOk_by (own := [("_law_k", 6)]) (N := ["_law_rng", "_law_names_here", "_law_deep", "_law_pick", "_law_quantity", "_law_parts", "_law_k", "_law_share", "_law_one"]) (sc := defScope s_l_term) (by decide +kernel)) (fun _ _ _ _ _ => (pg_name (i := 6) sc_l_term.nd rfl (Or.inl rfl))) (fun _ _ _ _ _ => pts_nil) (fun _ _ _ _ _ => (pe_call G_l_term (hr.mono (by first | decide | omega)) (by rfl) T.g_l_term T.F_l_term.kp T.b_l_term .nil pass0 (pa_cons (pv 0) (pa_cons (pv 1) (pa_cons (pe_op op_sub (pv 2) pe_int) pa_nil))))))) pa_nil)))) pss_nil)
      (pss_cons (ps_set (i := 4) sc_l_term.nd rfl (by first | exact Or.inl rfl | exact Or.inr rfl) (pe_op op_add pe_int (pe_call G_l_draw (hr.mono (by first | decide | omega)) (by rfl) T.g_l_draw T.F_l_draw.kp T.b_l_draw .nil pass0 (pa_cons (pv 0) (pa_cons pe_int pa_nil)))))
      (pss_cons (ps_setLc (i := 5) (own := [("_law_k", 6)]) (g := gName 6) rfl sc_l_term.nd rfl rfl (sw_true rfl rfl rfl (by decide +kernel)) (pi_range1 (by rfl) T.n_range (pa_cons (pv 4) pa_nil)) (blkOk_by (own := [("_law_k", 6)]) (N := ["_law_rng", "_law_names_here", "_law_deep", "_law_pick", "_law_quantity", "_law_parts", "_law_k", "_law_share", "_law_one"]) (sc := defScope s_l_term) (by decide +kernel)) (fun _ _ _ _ _ => (pg_name (i := 6) sc_l_term.nd rfl (Or.inl rfl))) (fun _ _ _ _ _ => pts_nil) (fun _ _ _ _ _ => (pe_call G_l_term (hr.mono (by first | decide | omega)) (by rfl) T.g_l_term T.F_l_term.kp T.b_l_term .nil pass0 (pa_cons (pv 0) (pa_cons (pv 1) (pa_cons (pe_op op_sub (pv 2) pe_int) pa_nil))))))
      (pss_cons (ps_if (pt_cmpR op_eq (pv 3) pe_int (nomark _)) (pss_one (ps_ret (pe_callTy call_tuple_of (by rfl) T.n_tuple (by decide +kernel) (pa_cons (pe_op op_cat (pe_lst (pa_cons pe_str pa_nil)) (pe_lc (own := [("_law_share", 7), ("_law_one", 8)]) (g := gTup K 2 (gCons (gName 7) (gCons (gName 8) gNil))) rfl sc_l_term.nd (RZ.pi_zipA (by rfl) T.n_zip (pa_cons (pe_call G_l_shares (hr.mono (by first | decide | omega)) (by rfl) T.g_l_shares T.F_l_shares.kp T.b_l_shares .nil pass0 (pa_cons (pv 0) (pa_cons (pv 4) pa_nil))) (pa_cons (pv 5) pa_nil))) (blkOk_by (own := [("_law_share", 7), ("_law_one", 8)]) (N := ["_law_rng", "_law_names_here", "_law_deep", "_law_pick", "_law_quantity", "_law_parts", "_law_k", "_law_share", "_law_one"]) (sc := defScope s_l_term) (by decide +kernel)) (fun _ _ _ _ _ => (pg_tup rfl (pgs_cons (pg_name (i := 7) sc_l_term.nd rfl (Or.inl rfl)) (pgs_cons (pg_name (i := 8) sc_l_term.nd rfl (Or.inl rfl)) pgs_nil)))) (fun _ _ _ _ _ => pts_nil) (fun _ _ _ _ _ => (pe_tup (pa_cons (pv 7) (pa_cons (pv 8) pa_nil)))))) pa_nil)))) pss_nil)
      (pss_one (ps_ret (pe_callTy call_tuple_of (by rfl) T.n_tuple (by decide +kernel) (pa_cons (pe_op op_cat (pe_lst (pa_cons (pe_ix ix_list (pe_lst (pa_cons pe_str (pa_cons pe_str (pa_cons pe_str pa_nil)))) (pe_op op_sub (pv 3) pe_int) (fun _ _ => rfl)) pa_nil)) (pv 5)) pa_nil))))))))))), ?_⟩
    refine ⟨.ref r, rfl, r, 9, rfl, R, by decide, by decide, fun pk H1 p0 p1 k1 R1 => ?_⟩
    have hS1 := k1.L nlr hS
    -- an event
    have leaf : ∀ (Q' : VK), (∀ v H', Q v H' → Q' v H') → (tTup (tCons (tC (V.str "event")) (tCons (tCall (sp_l_choice K) [] E0 (tCons (tVar 0) (tCons (tVar 1) tNil))) tNil))) [some (.ref r), some (.ref nl), some (.int d), some (.int pk), none, none, none, none, none] H1 Q' := by
      intro Q' hQ
      refine ⟨.ref r, rfl, .ref nl, rfl, r, .ref nl, _, rfl, R1, .inl ⟨nl, rfl, nlr, .inl hS1⟩, by rw [List.length_map]; exact s0, by rw [List.length_map]; omega, fun x hx H2 k2 R2 => ?_⟩
      obtain ⟨q, hq, rfl⟩ := List.mem_map.mp hx
      refine ⟨sz (by show 2 ≤ 100000; decide), fun p np => hQ _ _ ?_⟩
      have sp := Same.new (o := .tup [.str "event", .str q]) np
      exact w _ _ (.ev q) ((k1.trans k2).trans (Kp.of sp)) (R2.same sp) ⟨p, rfl, SqT.of upd_same⟩ hq
    refine ⟨.int d, rfl, d, 2, rfl, rfl, _, rfl, ite2 (fun e => iteT (leaf _ fun _ _ z => z)) (fun e => ?_)⟩
    have d2 : 2 ≤ d := by
      by_cases z : d < 2
      · exact absurd (decide_eq_true z) e
      · omega
    refine ⟨.int pk, rfl, rfl, _, rfl, ite2 (fun e0 => leaf _ fun _ _ z => z) (fun e0 => ?_)⟩
    cases n with
    | zero => exfalso; omega
    | succ n =>
      have hd1 : d - 1 ≤ (n : Int) + 1 := by omega
      refine ⟨.int pk, rfl, pk, 4, rfl, rfl, _, rfl, ite2 (fun e1 => ?_) (fun e1 => ?_)⟩
      · -- a delay
        refine ⟨.ref r, rfl, .ref nl, rfl, .int d, rfl, d, 1, rfl, rfl, r, nl, ss, d - 1, rfl, R1, nlr, hS1, s0, s1, hd1, fun v2 H2 t2 k2 R2 m2 g2 => ?_⟩
        refine ⟨.ref r, rfl, r, rfl, R2, fun v3 H3 n3 d3 k3 R3 f3 => ⟨sz (by show 3 ≤ 100000; decide), fun p np => ?_⟩⟩
        have sp := Same.new (o := .tup [.str "delay", v2, v3]) np
        refine w _ _ (.nd (.delay (n3, d3)) [t2]) (((k1.trans k2).trans k3).trans (Kp.of sp)) (R3.same sp) ⟨[v2], ⟨p, v2, v3, rfl, rfl, SqT.of upd_same, (f3.up' (by decide)).same sp⟩, All2.one ((m2.kp R2 k3).same sp)⟩ ⟨rfl, fun t ht => ?_⟩
        rw [List.mem_singleton.mp ht]; exact g2
      refine ⟨.int pk, rfl, rfl, _, rfl, ite2 (fun e2 => ?_) (fun e2 => ?_)⟩
      · -- a median
        refine ⟨sz (by show 1 ≤ 100000; decide), fun hl nhl => ?_⟩
        have sh := Same.new (o := .lst [.str "median"]) nhl
        have R1' := R1.same sh
        have hlr : hl ≠ r := R1.ne nhl
        refine ⟨3, rfl, by decide, by decide, fun D nD => ?_⟩
        have hlD : hl ≠ D := ne_of_none upd_same nD
        refine ⟨fun i m H3 => i + m = 3 ∧ Drawn1 K ss (n + 1) r D (upd H1 hl (.lst [.str "median"])) i H3, ⟨3, rfl, Drawn1.start R1' nD⟩, fun i m H3 hW => ?_⟩
        obtain ⟨em, dr⟩ := hW
        by_cases hi : i < 3
        · refine .inr ⟨hi, Drawn1 K ss (n + 1) r D (upd H1 hl (.lst [.str "median"])) (i + 1), fun H4 z => ⟨m - 1, by omega, by omega, z⟩, fun v H4 hy => ?_⟩
          obtain ⟨rfl, rfl⟩ := hy
          refine ⟨rfl, tYes_if ?_⟩
          refine ⟨.ref r, rfl, .ref nl, rfl, .int d, rfl, d, 1, rfl, rfl, r, nl, ss, d - 1, rfl, dr.2.1, nlr, dr.1.L nlr (sh.seq hS1), s0, s1, hd1, fun v5 H5 t5 k5 R5 m5 g5 => ?_⟩
          exact dr.more R1' nD (by omega) k5 R5 m5 g5
        · have ei : i = 3 := by omega
          subst ei
          obtain ⟨k3, R3, xs, ts, hD, hx, hA, hG⟩ := dr
          refine .inl ⟨Nat.le_refl _, ?_⟩
          have hh := k3.1 _ _ hlr (show (upd H1 hl (.lst [.str "median"])) hl = _ from upd_same)
          refine ⟨hl, D, _, _, rfl, rfl, hh, hD, sz (by rw [hx]; show 1 + 3 ≤ 100000; decide), fun c nc => ?_⟩
          have sc := Same.new (o := .lst ([.str "median"] ++ xs)) nc
          refine ⟨c, _, rfl, .inl ⟨SqL.of upd_same, fun p np => ?_⟩⟩
          have sp := sc.trans (Same.new (o := .tup ([.str "median"] ++ xs)) np)
          exact w _ _ (.nd .median ts) (((k1.trans (Kp.of sh)).trans k3).trans (Kp.of sp)) (R3.same sp) ⟨xs, ⟨p, rfl, SqT.of upd_same⟩, hA.mono fun _ _ z => z.same sp⟩ ⟨(show ts.length = 3 by rw [← hA.1, hx]), hG⟩
      -- the parts
      refine ⟨.ref r, rfl, r, 3, rfl, R1, by decide, by decide, fun q H2 q0 q1 k2 R2 => ⟨1, q, rfl, rfl, ?_⟩⟩
      have hS2 := k2.L nlr hS1
      refine ⟨.int (1 + q), rfl, 1 + q, rfl, by omega, by omega, fun D nD => ?_⟩
      have Dr : D ≠ r := R2.ne nD
      refine ⟨fun i m H3 => i + m = (1 + q).toNat ∧ Drawn1 K ss (n + 1) r D H2 i H3, ⟨(1 + q).toNat, by omega, Drawn1.start R2 nD⟩, fun i m H3 hW => ?_⟩
      obtain ⟨em, dr⟩ := hW
      by_cases hi : i < (1 + q).toNat
      · refine .inr ⟨hi, Drawn1 K ss (n + 1) r D H2 (i + 1), fun H4 z => ⟨m - 1, by omega, by omega, z⟩, fun v H4 hy => ?_⟩
        obtain ⟨rfl, rfl⟩ := hy
        refine ⟨rfl, tYes_if ?_⟩
        refine ⟨.ref r, rfl, .ref nl, rfl, .int d, rfl, d, 1, rfl, rfl, r, nl, ss, d - 1, rfl, dr.2.1, nlr, dr.1.L nlr hS2, s0, s1, hd1, fun v5 H5 t5 k5 R5 m5 g5 => ?_⟩
        exact dr.more R2 nD (by omega) k5 R5 m5 g5
      have ei : i = (1 + q).toNat := by omega
      subst ei
      obtain ⟨k3, R3, xs, ts, hD, hx, hA, hG⟩ := dr
      have tl : ts.length = (1 + q).toNat := by rw [← hA.1, hx]
      refine .inl ⟨Nat.le_refl _, ?_⟩
      refine ⟨.int pk, rfl, rfl, _, rfl, ite2 (fun e3 => ?_) (fun e3 => ?_)⟩
      · -- a mix
        refine ⟨sz (by show 1 ≤ 100000; decide), fun hl nhl => ?_⟩
        have sh := Same.new (o := .lst [.str "mix"]) nhl
        have hlr : hl ≠ r := R3.ne nhl
        refine ⟨.ref r, rfl, .int (1 + q), rfl, r, (1 + q).toNat, by rw [show (((1 + q).toNat : Nat) : Int) = 1 + q by omega]; rfl, R3.same sh, by omega, fun sl H4 zs ws k4 R4 hsl slr hF wl sw => ?_⟩
        have k04 := k3.trans ((Kp.of sh).trans k4)
        have hD4 : H4 D = some (.lst xs) := ((Kp.of sh).trans k4).1 _ _ Dr hD
        have hh4 : H4 hl = some (.lst [.str "mix"]) := k4.1 _ _ hlr upd_same
        have hA4 := hA.mono fun _ _ z => (z.same sh).kp (R3.same sh) k4
        have zl : zs.length = xs.length := by rw [hF.1, wl, hx]
        refine ⟨.ref D, rfl, sl, D, zs, xs, rfl, .inl ⟨SqL.of hsl, SqL.of hD4, fun L nL => ?_⟩⟩
        refine ⟨fun i m H5 => i + m = xs.length ∧ Same H4 H5 ∧ ∃ ys, H5 L = some (.lst ys) ∧ ys.length = i ∧ ∀ (j : Nat) y x f, ys[j]? = some y → xs[j]? = some x → ws[j]? = some f → ∃ q wv, y = .ref q ∧ SqT K H5 q [wv, x] ∧ FrB K H5 wv f.1 f.2 40, ⟨xs.length, by omega, Same.new nL, [], upd_same, rfl, fun j y x f z => by cases z⟩, fun i m H5 hW => ?_⟩
        obtain ⟨em5, s5, ys, hL, hyl, hys⟩ := hW
        by_cases hi5 : i < xs.length
        · refine .inr ⟨⟨zs, xs, zs[i]'(by omega), xs[i], SqL.of (s5 _ _ hsl), SqL.of (s5 _ _ hD4), List.getElem?_eq_getElem _, List.getElem?_eq_getElem hi5⟩, fun H6 => Same H4 H6 ∧ ∃ ys, H6 L = some (.lst ys) ∧ ys.length = i + 1 ∧ ∀ (j : Nat) y x f, ys[j]? = some y → xs[j]? = some x → ws[j]? = some f → ∃ q wv, y = .ref q ∧ SqT K H6 q [wv, x] ∧ FrB K H6 wv f.1 f.2 40, fun H6 hN => ⟨m - 1, by omega, by omega, hN⟩, fun v H6 hy => ?_⟩
          obtain ⟨tt, u1, u2, rfl, nT, rfl, f1, f2⟩ := hy
          have hu1 := f1 _ (SqL.of (s5 _ _ hsl))
          have hu2 := f2 _ (SqL.of (s5 _ _ hD4))
          refine ⟨tt, [u1, u2], rfl, SqT.of upd_same, rfl, u1, [u2], rfl, u2, [], rfl, rfl, rfl, tYes_if ?_⟩
          refine ⟨u1, rfl, u2, rfl, sz (by show 2 ≤ 100000; decide), fun pr npr => ?_⟩
          have s6 := (Same.new (o := .tup [u1, u2]) nT).trans (Same.new (o := .tup [u1, u2]) npr)
          have hL6 := s6 _ _ hL
          refine ⟨ys, hL6, by rw [hyl]; exact szl (by omega), fun b o z => ?_, ys ++ [.ref pr], upd_same, by rw [List.length_append, hyl]; rfl, ?_⟩
          · rw [upd_ne (ne_of_none z nL)]; exact s6 _ _ (s5 _ _ z)
          · intro j y x f hy hx' hf
            have putT : ∀ {q xs}, SqT K (upd (upd H5 tt (.tup [u1, u2])) pr (.tup [u1, u2])) q xs → SqT K (upd (upd (upd H5 tt (.tup [u1, u2])) pr (.tup [u1, u2])) L (.lst (ys ++ [.ref pr]))) q xs := fun {q xs} z => by
              rcases z with (z | ⟨o, z⟩) | z
              · exact .inl (.inl (by rw [upd_ne (ne_of z hL6 (fun y => by cases y))]; exact z))
              · exact .inl (.inr ⟨o, by rw [upd_ne (ne_of z hL6 (fun y => by cases y))]; exact z⟩)
              · exact .inr z
            by_cases hj : j < ys.length
            · rw [List.getElem?_append_left hj] at hy
              obtain ⟨q, wv, e, h1, h2⟩ := hys j y x f hy hx' hf
              exact ⟨q, wv, e, putT (Same.T s6 h1), (h2.same s6).put' hL6⟩
            · have ej : j = i := by
                have := (List.getElem?_eq_some_iff.mp hy).1
                rw [List.length_append] at this
                have : j < ys.length + 1 := this
                omega
              subst ej
              rw [List.getElem?_append_right (by omega), show j - ys.length = 0 by omega] at hy
              cases hy
              rw [hu2] at hx'
              cases hx'
              exact ⟨pr, u1, rfl, putT (SqT.of upd_same), (((hF.2 j u1 f hu1 hf).same s5).same s6).put' hL6⟩
        · have e5 : i = xs.length := by omega
          refine .inl ⟨⟨zs, xs, SqL.of (s5 _ _ hsl), SqL.of (s5 _ _ hD4), .inr (by omega)⟩, ?_⟩
          refine ⟨hl, L, _, _, rfl, rfl, s5 _ _ hh4, hL, sz (by rw [hyl]; show 1 + i ≤ 100000; omega), fun c nc => ?_⟩
          have sc := Same.new (o := .lst ([.str "mix"] ++ ys)) nc
          refine ⟨c, _, rfl, .inl ⟨SqL.of upd_same, fun p np => ?_⟩⟩
          have sp := sc.trans (Same.new (o := .tup ([.str "mix"] ++ ys)) np)
          refine w _ _ (.nd (.mix ws) ts) ((((k1.trans k2).trans k04).trans (Kp.of s5)).trans (Kp.of sp)) ((R4.same s5).same sp) ⟨xs, ⟨p, ys, rfl, SqT.of upd_same, by omega, by rw [wl, hx], fun j y x f a b c => ?_⟩, hA4.mono fun _ _ z => (z.same s5).same sp⟩ ⟨⟨by omega, by omega, by omega, sw⟩, hG⟩
          obtain ⟨q', wv, e', h1, h2⟩ := hys j y x f a b c
          exact ⟨q', wv, e', Same.T sp h1, h2.same sp⟩
      · -- a max or a min
        have pk1 : 4 ≤ pk := by
          by_cases z : pk < 4
          · exact absurd (decide_eq_true z) e1
          · omega
        have pk2 : pk ≠ 8 := fun z => e2 (decide_eq_true (by rw [z]))
        have pk3 : pk ≠ 7 := fun z => e3 (decide_eq_true (by rw [z]))
        refine ⟨sz (by show 3 ≤ 100000; decide), fun ml nml => ?_⟩
        have sm := Same.new (o := .lst [.str "max", .str "min", .str "max"]) nml
        obtain ⟨x, hx0, hxm⟩ := at_int (xs := [V.str "max", V.str "min", V.str "max"]) (i := pk - 4) (by omega) (by show pk - 4 < 3; omega)
        refine ⟨.int pk, rfl, pk, 4, rfl, rfl, ml, _, pk - 4, x, rfl, rfl, SqL.of upd_same, hx0, sz (by show 1 ≤ 100000; decide), fun hl nhl => ?_⟩
        have sh := sm.trans (Same.new (o := .lst [x]) nhl)
        have hhl : (upd (upd H3 ml (.lst [.str "max", .str "min", .str "max"])) hl (.lst [x])) hl = _ := upd_same
        refine ⟨.ref D, rfl, hl, D, _, _, rfl, rfl, hhl, sh _ _ hD, sz (by rw [hx]; show 1 + (1 + q).toNat ≤ 100000; omega), fun c nc => ?_⟩
        have sc := sh.trans (Same.new (o := .lst ([x] ++ xs)) nc)
        refine ⟨c, _, rfl, .inl ⟨SqL.of upd_same, fun p np => ?_⟩⟩
        have sp := sc.trans (Same.new (o := .tup ([x] ++ xs)) np)
        have kk := ((k1.trans k2).trans k3).trans (Kp.of sp)
        have hA' := hA.mono fun _ _ z => z.same sp
        have go : x = .str "max" ∨ x = .str "min" := by
          simp only [List.mem_cons, List.not_mem_nil, or_false] at hxm
          rcases hxm with h | h | h
          · exact .inl h
          · exact .inr h
          · exact .inl h
        rcases go with rfl | rfl
        · exact w _ _ (.nd .max ts) kk (R3.same sp) ⟨xs, ⟨p, rfl, SqT.of upd_same⟩, hA'⟩ ⟨⟨by omega, by omega⟩, hG⟩
        · exact w _ _ (.nd .min ts) kk (R3.same sp) ⟨xs, ⟨p, rfl, SqT.of upd_same⟩, hA'⟩ ⟨⟨by omega, by omega⟩, hG⟩
theorem ok_l_term (T : Txt K mg a) : FnOk P w K mg base CX0 8 a.f_l_term a.fd_l_term ["_law_rng", "_law_names_here", "_law_deep"] (sp_l_term K) := ok_l_term_n T 4
end
section
variable {P : Program} {w : World} {K : PySem.W.Frag} {mg : Str → Option Value} {base : Heap} {a : Ad}
def gaps (qs rs : List Rat) : List Rat := List.zipWith (fun x y => rabs (x - y)) qs rs
def sp_l_distance (K : PySem.W.Frag) : Sp := fun vs H Q _ => ∃ (la lb : Addr) (xs ys : List V) (qs rs : List Rat) (B : Nat), vs = [.ref la, .ref lb] ∧ SqL K H la xs ∧ SqL K H lb ys ∧ FRs K H xs qs B ∧ FRs K H ys rs B ∧ xs.length = ys.length ∧ xs.length ≤ 60 ∧ 0 < B ∧ B ≤ 3900 ∧ ∀ v H', Same H H' → FR K H' v (lmax (0 :: gaps qs rs)) (B + B + 1) → Q v H'

theorem ok_l_distance (T : Txt K mg a) : FnOk P w K mg base CX0 3 a.f_l_distance a.fd_l_distance ["_law_one", "_law_other"] (sp_l_distance K) := by
  have G_l_maximum := ok_l_maximum (P := P) (w := w) (base := base) T
  have G_l_abs := ok_l_abs (P := P) (w := w) (base := base) T
  have G_l_subtract := ok_l_subtract (P := P) (w := w) (base := base) T
  refine T.F_l_distance.ok sc_l_distance (fun vs H Q E h => ?_) (fun cdv A outer s H vs Q E hr h => ?_)
  · obtain ⟨la, lb, xs, ys, qs, rs, B, rfl, _⟩ := h
    rfl
  · obtain ⟨la, lb, xs, ys, qs, rs, B, rfl, hx, hy, fx, fy, hl, h60, B0, hB, w⟩ := h
    refine ⟨_, (pss_one (ps_ret (pe_call G_l_maximum (hr.mono (by first | decide | omega)) (by rfl) T.g_l_maximum T.F_l_maximum.kp T.b_l_maximum .nil pass0 (pa_cons (pe_op op_cat (pe_lst (pa_cons (pe_tup (pa_cons pe_int (pa_cons pe_int pa_nil))) pa_nil)) (pe_lc (own := [("_law_x", 2), ("_law_y", 3)]) (g := gTup K 2 (gCons (gName 2) (gCons (gName 3) gNil))) rfl sc_l_distance.nd (RZ.pi_zipA (by rfl) T.n_zip (pa_cons (pv 0) (pa_cons (pv 1) pa_nil))) (blkOk_by (own := [("_law_x", 2), ("_law_y", 3)]) (N := ["_law_one", "_law_other", "_law_x", "_law_y"]) (sc := defScope s_l_distance) (by decide +kernel)) (fun _ _ _ _ _ => (pg_tup rfl (pgs_cons (pg_name (i := 2) sc_l_distance.nd rfl (Or.inl rfl)) (pgs_cons (pg_name (i := 3) sc_l_distance.nd rfl (Or.inl rfl)) pgs_nil)))) (fun _ _ _ _ _ => pts_nil) (fun _ _ _ _ _ => (pe_call G_l_abs (hr.mono (by first | decide | omega)) (by rfl) T.g_l_abs T.F_l_abs.kp T.b_l_abs .nil pass0 (pa_cons (pe_call G_l_subtract (hr.mono (by first | decide | omega)) (by rfl) T.g_l_subtract T.F_l_subtract.kp T.b_l_subtract .nil pass0 (pa_cons (pv 2) (pa_cons (pv 3) pa_nil))) pa_nil))))) pa_nil)))), ?_⟩
    refine ⟨sz (by show 2 ≤ 100000; decide), fun z0 nz0 => ⟨sz (by show 1 ≤ 100000; decide), fun hd nhd => ?_⟩⟩
    have s1 := (Same.new (o := .tup [.int 0, .int 1]) nz0).trans (Same.new (o := .lst [.ref z0]) nhd)
    have f0 : FR K _ (.ref z0) 0 (B + B + 1) := (FR.up (FR.same (fr_zero (SqT.of upd_same)) (Same.new (o := .lst [.ref z0]) nhd)) (by omega))
    have hh : (upd (upd H z0 (.tup [.int 0, .int 1])) hd (.lst [.ref z0])) hd = some (.lst [.ref z0]) := upd_same
    generalize upd (upd H z0 (.tup [.int 0, .int 1])) hd (.lst [.ref z0]) = H1 at *
    refine ⟨.ref la, rfl, .ref lb, rfl, la, lb, xs, ys, rfl, .inl ⟨s1.seq hx, s1.seq hy, fun L nL => ?_⟩⟩
    have hdL : hd ≠ L := ne_of_none hh nL
    refine ⟨fun i m H5 => i + m = xs.length ∧ Same H1 H5 ∧ ∃ ms, H5 L = some (.lst ms) ∧ FRs K H5 ms ((gaps qs rs).take i) (B + B + 1), ⟨xs.length, by omega, Same.new nL, [], upd_same, FRs.nil⟩, fun i m H5 hW => ?_⟩
    obtain ⟨em, s5, ms, hL, hM⟩ := hW
    have gl : (gaps qs rs).length = xs.length := by unfold gaps; rw [List.length_zipWith, ← fx.len, ← fy.len]; omega
    have ml : ms.length = min i xs.length := by rw [hM.len, List.length_take, gl]
    have sx := s1.trans s5
    by_cases hi : i < xs.length
    · refine .inr ⟨⟨xs, ys, xs[i], ys[i]'(by omega), sx.seq hx, sx.seq hy, List.getElem?_eq_getElem _, List.getElem?_eq_getElem _⟩, fun H6 => Same H1 H6 ∧ ∃ ms, H6 L = some (.lst ms) ∧ FRs K H6 ms ((gaps qs rs).take (i + 1)) (B + B + 1), fun H6 hN => ⟨m - 1, by omega, by omega, hN⟩, fun v H6 hy6 => ?_⟩
      obtain ⟨tt, u1, u2, rfl, nT, rfl, g1, g2⟩ := hy6
      have hu1 := g1 _ (sx.seq hx)
      have hu2 := g2 _ (sx.seq hy)
      have s6 := Same.new (o := .tup [u1, u2]) nT
      obtain ⟨q1, hq1, fq1⟩ := fx.get hu1
      obtain ⟨q2, hq2, fq2⟩ := fy.get hu2
      refine ⟨tt, [u1, u2], rfl, SqT.of upd_same, rfl, u1, [u2], rfl, u2, [], rfl, rfl, rfl, tYes_if ?_⟩
      refine ⟨u1, rfl, u2, rfl, u1, u2, q1, q2, rfl, (fq1.same (sx.trans s6)).up hB, (fq2.same (sx.trans s6)).up hB, fun r nr => ?_⟩
      have s7 := s6.trans (Same.new (o := .tup [.int (ofR (q1 - q2)).1, .int (ofR (q1 - q2)).2]) nr)
      refine ⟨.ref r, q1 - q2, B + B + 1, rfl, FR.new (fq1.bt.sub fq2.bt), fun r2 nr2 fr2 => ?_⟩
      have s8 := s7.trans (Same.new (o := .tup [.int (ofR (rabs (q1 - q2))).1, .int (ofR (rabs (q1 - q2))).2]) nr2)
      have hL8 := s8 _ _ hL
      refine ⟨ms, hL8, by rw [ml]; exact szl (by omega), fun c o e => ?_, ms ++ [.ref r2], upd_same, ?_⟩
      · rw [upd_ne (ne_of_none e nL)]; exact s8 _ _ (s5 _ _ e)
      · have hz : (gaps qs rs)[i]? = some (rabs (q1 - q2)) := by unfold gaps; rw [List.getElem?_zipWith, hq1, hq2]
        rw [List.take_add_one, hz]
        exact FRs.snoc (hM.mono fun _ _ z => (z.same s8).put hL8) (fr2.put hL8)
    · have ei : i = xs.length := by omega
      subst ei
      rw [List.take_of_length_le (by omega)] at hM
      refine .inl ⟨⟨xs, ys, sx.seq hx, sx.seq hy, .inl (by omega)⟩, ?_⟩
      refine ⟨hd, L, _, _, rfl, rfl, s5 _ _ hh, hL, sz (by show 1 + ms.length ≤ 100000; omega), fun c nc => ?_⟩
      have sc := Same.new (o := .lst ([.ref z0] ++ ms)) nc
      refine ⟨c, _, 0 :: gaps qs rs, B + B + 1, rfl, SqL.of upd_same, FRs.cons ((f0.same s5).same sc) (hM.mono fun _ _ z => z.same sc), by omega, by show 0 < ms.length + 1; omega, fun v _ fv => w v _ (sx.trans sc) fv⟩
end
section
variable {P : Program} {w : World} {K : PySem.W.Frag} {mg : Str → Option Value} {base : Heap} {a : Ad}
def sp_p_law (K : PySem.W.Frag) : Sp := fun vs H Q _ => ∃ (b : Addr) (ns : List Int), vs = [.ref b] ∧ SqL K H b (ns.map V.int) ∧ ns.length ≤ 63 ∧ ∀ H', Q (.bl true) H'
/-! ### weights -/
theorem toR_red {i S : Int} (hS : S ≠ 0) : toR (red i S) = Rat.divInt i S := by rw [red_R hS, toR_ofR]
theorem sum_div (S : Int) : ∀ is : List Int, (is.map fun i => Rat.divInt i S).sum = Rat.divInt is.sum S
  | [] => by rw [List.map_nil, List.sum_nil, List.sum_nil, Rat.zero_divInt]
  | i :: is => by
    rw [List.map_cons, List.sum_cons, List.sum_cons, sum_div S is, Rat.divInt_eq_div, Rat.divInt_eq_div, Rat.divInt_eq_div, Rat.intCast_add]
    grind
theorem ints_pos : ∀ {is : List Int}, (∀ i ∈ is, 1 ≤ i ∧ i ≤ 4) → is ≠ [] → 0 < is.sum
  | [], _, h => absurd rfl h
  | [i], h, _ => by have := h i List.mem_cons_self; simp; omega
  | i :: j :: is, h, _ => by
    have h1 := h i List.mem_cons_self
    have h2 := ints_pos (is := j :: is) (fun k hk => h k (List.mem_cons_of_mem _ hk)) (by simp)
    rw [List.sum_cons]
    omega
theorem ShW.nice {ws : List QQ} (h : ShW ws) (n0 : ws ≠ []) : (∀ w ∈ ws.map toR, 0 ≤ w) ∧ (ws.map toR).sum = 1 := by
  obtain ⟨is, hi, _, rfl⟩ := h
  have ne : is ≠ [] := fun z => n0 (by rw [z]; rfl)
  have S0 := ints_pos hi ne
  have e : (is.map fun i => red i is.sum).map toR = is.map fun i => Rat.divInt i is.sum := by
    rw [List.map_map]
    exact List.map_congr_left fun i _ => toR_red (by omega)
  rw [e]
  refine ⟨fun w hw => ?_, ?_⟩
  · obtain ⟨i, hm, rfl⟩ := List.mem_map.mp hw
    exact (Rat.divInt_nonneg_iff_of_pos_right S0).mpr (by have := hi i hm; omega)
  · rw [sum_div, Rat.divInt_eq_div]
    have hz : ((is.sum : Int) : Rat) ≠ 0 := fun z => by
      have : is.sum = 0 := by exact_mod_cast z
      omega
    grind
theorem le2_map {ts : List Tm} {ρ μ : Str → Rat} (h : ∀ t ∈ ts, t.val ρ ≤ t.val μ) : Le2 (ts.map (Tm.val ρ)) (ts.map (Tm.val μ)) := by
  refine ⟨by rw [List.length_map, List.length_map], fun i x y hx hy => ?_⟩
  rw [List.getElem?_map] at hx hy
  cases e : ts[i]? with
  | none => rw [e] at hx; cases hx
  | some t => rw [e] at hx hy; cases hx; cases hy; exact h t (List.mem_of_getElem? e)
theorem ne_nil {α : Type} {l : List α} (h : 1 ≤ l.length) : l ≠ [] := fun z => by rw [z] at h; cases h
theorem Good.mono {ss : List Str} {ρ μ : Str → Rat} (hs : ∀ s ∈ ss, ρ s ≤ μ s) : ∀ {n : Nat} {t : Tm}, Good ss n t → t.val ρ ≤ t.val μ
  | 0, _, h => h.elim
  | n + 1, .ev s, h => by rw [Tm.val, Tm.val]; exact hs s h
  | n + 1, .nd k ts, h => by
    have L := le2_map fun t ht => Good.mono hs (h.2 t ht)
    have hk := h.1
    rw [Tm.val, Tm.val, vals_map, vals_map]
    cases k with
    | delay f =>
      have := lmax_mono L
      show lmax _ + toR f ≤ lmax _ + toR f
      grind
    | max => exact lmax_mono L
    | min => exact lmin_mono L
    | median => exact lmed_mono L
    | mix ws =>
      have n0 : ws ≠ [] := ne_nil (by rw [hk.2.2.1]; exact hk.1)
      exact lmix_mono (hk.2.2.2.nice n0).1 L
theorem Good.shift {ss : List Str} {ρ μ : Str → Rat} {c : Rat} (hs : ∀ s ∈ ss, μ s = ρ s + c) : ∀ {n : Nat} {t : Tm}, Good ss n t → t.val μ = t.val ρ + c
  | 0, _, h => h.elim
  | n + 1, .ev s, h => by rw [Tm.val, Tm.val]; exact hs s h
  | n + 1, .nd k ts, h => by
    have L : ts.map (Tm.val μ) = (ts.map (Tm.val ρ)).map (· + c) := by
      rw [List.map_map]
      exact List.map_congr_left fun t ht => Good.shift hs (h.2 t ht)
    have hk := h.1
    have ar := (Good.ar (n := n + 1) (t := .nd k ts) h).1
    have ne : ts.map (Tm.val ρ) ≠ [] := ne_nil (by rw [List.length_map]; exact ar)
    rw [Tm.val, Tm.val, vals_map, vals_map, L]
    cases k with
    | delay f =>
      show lmax _ + toR f = lmax _ + toR f + c
      rw [lmax_shift c ne]
      grind
    | max => exact lmax_shift c ne
    | min => exact lmin_shift c ne
    | median =>
      have l3 : ts.length = 3 := hk
      match ts, l3 with
      | [t1, t2, t3], _ => exact med3_shift c _ _ _
    | mix ws =>
      have n0 : ws ≠ [] := ne_nil (by rw [hk.2.2.1]; exact hk.1)
      have e := lmix_shift c (ws := ws.map toR) (xs := ts.map (Tm.val ρ)) (by rw [List.length_map, List.length_map]; exact hk.2.2.1)
      rw [(hk.2.2.2.nice n0).2] at e
      show lmix _ _ = lmix _ _ + c
      rw [e]
      grind
theorem gaps_mem {ss : List Str} {ρ μ : Str → Rat} {s : Str} (h : s ∈ ss) : rabs (ρ s - μ s) ∈ gaps (ss.map ρ) (ss.map μ) := by
  induction ss with
  | nil => cases h
  | cons x ss ih =>
    show _ ∈ rabs (ρ x - μ x) :: gaps (ss.map ρ) (ss.map μ)
    rcases List.mem_cons.mp h with z | z
    · rw [z]; exact List.mem_cons_self
    · exact List.mem_cons_of_mem _ (ih z)
/-- values never differ by more than the tables -/
theorem Good.near {ss : List Str} {ρ μ : Str → Rat} {n : Nat} {t : Tm} (h : Good ss n t) : rabs (t.val ρ - t.val μ) ≤ lmax (0 :: gaps (ss.map ρ) (ss.map μ)) := by
  generalize hc : lmax (0 :: gaps (ss.map ρ) (ss.map μ)) = c
  have hs : ∀ s ∈ ss, rabs (ρ s - μ s) ≤ c := fun s hs => by rw [← hc]; exact lmax_ge (List.mem_cons_of_mem _ (gaps_mem hs))
  have up : ∀ {ρ μ : Str → Rat}, (∀ s ∈ ss, ρ s ≤ μ s + c) → t.val ρ ≤ t.val μ + c := by
    intro ρ μ hh
    have h1 := Good.mono (μ := fun s => μ s + c) hh h
    rw [Good.shift (ρ := μ) (c := c) (fun s _ => rfl) h] at h1
    exact h1
  have a1 := up (ρ := ρ) (μ := μ) fun s z => by have := (rabs_le (hs s z)).1; grind
  have a2 := up (ρ := μ) (μ := ρ) fun s z => by have := (rabs_le (hs s z)).2; grind
  exact rabs_of_le (by grind) (by grind)
theorem ne_same {q : Rat} : PyData.eqv (.tuple [.int (ofR q).1, .int (ofR q).2]) (.tuple [.int (ofR q).1, .int (ofR q).2]) = true := by
  simp [PyData.eqv, PyData.eqvAll]
theorem asg_map {ss : List Str} {ρ : Str → Rat} : ∀ (j : Nat) s q, ss[j]? = some s → (ss.map ρ)[j]? = some q → ρ s = q := fun j s q h1 h2 => by
  rw [List.getElem?_map, h1] at h2
  exact Option.some.inj h2
theorem take_one {ss : List Str} {ρ : Str → Rat} {i : Nat} {s : Str} (h : ss[i]? = some s) : (ss.take (i + 1)).map ρ = (ss.take i).map ρ ++ [ρ s] := by
  rw [List.take_add_one, h, List.map_append]
  rfl

theorem ok_p_law (T : Txt K mg a) : FnOk P w K mg base CX0 19 a.f_p_law a.fd_p_law ["_law_script"] (sp_p_law K) := by
  have G_l_source := ok_l_source (P := P) (w := w) (base := base) T
  have G_l_names := ok_l_names (P := P) (w := w) (base := base) T
  have G_l_term := ok_l_term (P := P) (w := w) (base := base) T
  have G_l_distance := ok_l_distance (P := P) (w := w) (base := base) T
  have G_l_is_less := ok_l_is_less (P := P) (w := w) (base := base) T
  have G_l_wide := ok_l_wide (P := P) (w := w) (base := base) T
  have G_p_evaluate := ok_p_evaluate (P := P) (w := w) (base := base) T
  have G_l_abs := ok_l_abs (P := P) (w := w) (base := base) T
  have G_l_add := ok_l_add (P := P) (w := w) (base := base) T
  have G_l_draw := ok_l_draw (P := P) (w := w) (base := base) T
  have G_l_subtract := ok_l_subtract (P := P) (w := w) (base := base) T
  have G_l_maximum := ok_l_maximum (P := P) (w := w) (base := base) T
  refine T.F_p_law.ok sc_p_law (fun vs H Q E h => ?_) (fun cdv A outer s H vs Q E hr h => ?_)
  · obtain ⟨b, ns, rfl, _⟩ := h
    rfl
  · obtain ⟨b, ns, rfl, hS, hlen, w⟩ := h
    refine ⟨_, (pss_cons (ps_set (i := 1) sc_p_law.nd rfl (by first | exact Or.inl rfl | exact Or.inr rfl) (pe_call G_l_source (hr.mono (by first | decide | omega)) (by rfl) T.g_l_source T.F_l_source.kp T.b_l_source .nil pass0 (pa_cons (pv 0) pa_nil)))
          (pss_cons (ps_for PassesOwn.never rfl (pi_range1 (by rfl) T.n_range (pa_cons pe_int pa_nil)) (pg_name (i := 2) sc_p_law.nd rfl (by first | exact Or.inl rfl | exact Or.inr rfl)) (pss_cons (ps_set (i := 3) sc_p_law.nd rfl (by first | exact Or.inl rfl | exact Or.inr rfl) (pe_call G_l_names (hr.mono (by first | decide | omega)) (by rfl) T.g_l_names T.F_l_names.kp T.b_l_names .nil pass0 (pa_cons (pv 1) (pa_cons pe_int pa_nil))))
          (pss_cons (ps_set (i := 4) sc_p_law.nd rfl (by first | exact Or.inl rfl | exact Or.inr rfl) (pe_call G_l_term (hr.mono (by first | decide | omega)) (by rfl) T.g_l_term T.F_l_term.kp T.b_l_term .nil pass0 (pa_cons (pv 1) (pa_cons (pv 3) (pa_cons (pe_op op_add pe_int (pe_call G_l_draw (hr.mono (by first | decide | omega)) (by rfl) T.g_l_draw T.F_l_draw.kp T.b_l_draw .nil pass0 (pa_cons (pv 1) (pa_cons pe_int pa_nil)))) pa_nil)))))
          (pss_cons (ps_asg (pe_tup (pa_cons (pe_callTy (call_dictP rfl) (by rfl) T.n_dict (by decide +kernel) (pa_cons (pe_lc (own := [("_law_name", 12)]) (g := gName 12) rfl sc_p_law.nd (pi_list (pv 3)) (blkOk_by (own := [("_law_name", 12)]) (N := ["_law_script", "_law_rng", "_law_turn", "_law_names_here", "_law_term_here", "_law_x", "_law_amount", "_law_y", "_law_one", "_law_other", "_law_far", "_law_late", "_law_name"]) (sc := defScope s_p_law) (by decide +kernel)) (fun _ _ _ _ _ => (pg_name (i := 12) sc_p_law.nd rfl (Or.inl rfl))) (fun _ _ _ _ _ => pts_nil) (fun _ _ _ _ _ => (pe_tup (pa_cons (pv 12) (pa_cons (pe_call G_l_wide (hr.mono (by first | decide | omega)) (by rfl) T.g_l_wide T.F_l_wide.kp T.b_l_wide .nil pass0 (pa_cons (pv 1) pa_nil)) pa_nil))))) pa_nil)) (pa_cons (pe_call G_l_wide (hr.mono (by first | decide | omega)) (by rfl) T.g_l_wide T.F_l_wide.kp T.b_l_wide .nil pass0 (pa_cons (pv 1) pa_nil)) pa_nil))) (pg_tup rfl (pgs_cons (pg_name (i := 5) sc_p_law.nd rfl (by first | exact Or.inl rfl | exact Or.inr rfl)) (pgs_cons (pg_name (i := 6) sc_p_law.nd rfl (by first | exact Or.inl rfl | exact Or.inr rfl)) pgs_nil))))
          (pss_cons (ps_set (i := 7) sc_p_law.nd rfl (by first | exact Or.inl rfl | exact Or.inr rfl) (pe_callTy (call_dictP rfl) (by rfl) T.n_dict (by decide +kernel) (pa_cons (pe_lc (own := [("_law_name", 12)]) (g := gName 12) rfl sc_p_law.nd (pi_list (pv 3)) (blkOk_by (own := [("_law_name", 12)]) (N := ["_law_script", "_law_rng", "_law_turn", "_law_names_here", "_law_term_here", "_law_x", "_law_amount", "_law_y", "_law_one", "_law_other", "_law_far", "_law_late", "_law_name"]) (sc := defScope s_p_law) (by decide +kernel)) (fun _ _ _ _ _ => (pg_name (i := 12) sc_p_law.nd rfl (Or.inl rfl))) (fun _ _ _ _ _ => pts_nil) (fun _ _ _ _ _ => (pe_tup (pa_cons (pv 12) (pa_cons (pe_call G_l_wide (hr.mono (by first | decide | omega)) (by rfl) T.g_l_wide T.F_l_wide.kp T.b_l_wide .nil pass0 (pa_cons (pv 1) pa_nil)) pa_nil))))) pa_nil)))
          (pss_cons (ps_par (i := 8) (j := 9) (by rfl) sc_p_law.nd rfl rfl (by decide) rfl rfl (pa_cons (pe_call G_p_evaluate (hr.mono (by first | decide | omega)) (by rfl) T.g_p_evaluate T.F_p_evaluate.kp T.b_p_evaluate .nil pass0 (pa_cons (pv 4) (pa_cons (pv 5) pa_nil))) (pa_cons (pe_call G_p_evaluate (hr.mono (by first | decide | omega)) (by rfl) T.g_p_evaluate T.F_p_evaluate.kp T.b_p_evaluate .nil pass0 (pa_cons (pv 4) (pa_cons (pv 7) pa_nil))) pa_nil)) (by rfl))
          (pss_cons (ps_set (i := 10) sc_p_law.nd rfl (by first | exact Or.inl rfl | exact Or.inr rfl) (pe_call G_l_distance (hr.mono (by first | decide | omega)) (by rfl) T.g_l_distance T.F_l_distance.kp T.b_l_distance .nil pass0 (pa_cons (pe_lc (own := [("_law_name", 12)]) (g := gName 12) rfl sc_p_law.nd (pi_list (pv 3)) (blkOk_by (own := [("_law_name", 12)]) (N := ["_law_script", "_law_rng", "_law_turn", "_law_names_here", "_law_term_here", "_law_x", "_law_amount", "_law_y", "_law_one", "_law_other", "_law_far", "_law_late", "_law_name"]) (sc := defScope s_p_law) (by decide +kernel)) (fun _ _ _ _ _ => (pg_name (i := 12) sc_p_law.nd rfl (Or.inl rfl))) (fun _ _ _ _ _ => pts_nil) (fun _ _ _ _ _ => (pe_dget (u2 hr) (pv 5) (pv 12) (fun _ _ => rfl)))) (pa_cons (pe_lc (own := [("_law_name", 12)]) (g := gName 12) rfl sc_p_law.nd (pi_list (pv 3)) (blkOk_by (own := [("_law_name", 12)]) (N := ["_law_script", "_law_rng", "_law_turn", "_law_names_here", "_law_term_here", "_law_x", "_law_amount", "_law_y", "_law_one", "_law_other", "_law_far", "_law_late", "_law_name"]) (sc := defScope s_p_law) (by decide +kernel)) (fun _ _ _ _ _ => (pg_name (i := 12) sc_p_law.nd rfl (Or.inl rfl))) (fun _ _ _ _ _ => pts_nil) (fun _ _ _ _ _ => (pe_dget (u2 hr) (pv 7) (pv 12) (fun _ _ => rfl)))) pa_nil))))
          (pss_cons (ps_if (pt_val (pe_call G_l_is_less (hr.mono (by first | decide | omega)) (by rfl) T.g_l_is_less T.F_l_is_less.kp T.b_l_is_less .nil pass0 (pa_cons (pv 10) (pa_cons (pe_call G_l_abs (hr.mono (by first | decide | omega)) (by rfl) T.g_l_abs T.F_l_abs.kp T.b_l_abs .nil pass0 (pa_cons (pe_call G_l_subtract (hr.mono (by first | decide | omega)) (by rfl) T.g_l_subtract T.F_l_subtract.kp T.b_l_subtract .nil pass0 (pa_cons (pv 8) (pa_cons (pv 9) pa_nil))) pa_nil)) pa_nil)))) (pss_one (ps_ret pe_bl)) pss_nil)
          (pss_cons (ps_set (i := 11) sc_p_law.nd rfl (by first | exact Or.inl rfl | exact Or.inr rfl) (pe_callTy (call_dictP rfl) (by rfl) T.n_dict (by decide +kernel) (pa_cons (pe_lc (own := [("_law_name", 12)]) (g := gName 12) rfl sc_p_law.nd (pi_list (pv 3)) (blkOk_by (own := [("_law_name", 12)]) (N := ["_law_script", "_law_rng", "_law_turn", "_law_names_here", "_law_term_here", "_law_x", "_law_amount", "_law_y", "_law_one", "_law_other", "_law_far", "_law_late", "_law_name"]) (sc := defScope s_p_law) (by decide +kernel)) (fun _ _ _ _ _ => (pg_name (i := 12) sc_p_law.nd rfl (Or.inl rfl))) (fun _ _ _ _ _ => pts_nil) (fun _ _ _ _ _ => (pe_tup (pa_cons (pv 12) (pa_cons (pe_call G_l_maximum (hr.mono (by first | decide | omega)) (by rfl) T.g_l_maximum T.F_l_maximum.kp T.b_l_maximum .nil pass0 (pa_cons (pe_lst (pa_cons (pe_dget (u2 hr) (pv 5) (pv 12) (fun _ _ => rfl)) (pa_cons (pe_dget (u2 hr) (pv 7) (pv 12) (fun _ _ => rfl)) pa_nil))) pa_nil)) pa_nil))))) pa_nil)))
          (pss_cons (ps_if (PW.pt (pw_or (pt_val (pe_call G_l_is_less (hr.mono (by first | decide | omega)) (by rfl) T.g_l_is_less T.F_l_is_less.kp T.b_l_is_less .nil pass0 (pa_cons (pe_call G_p_evaluate (hr.mono (by first | decide | omega)) (by rfl) T.g_p_evaluate T.F_p_evaluate.kp T.b_p_evaluate .nil pass0 (pa_cons (pv 4) (pa_cons (pv 11) pa_nil))) (pa_cons (pv 8) pa_nil)))) (pw_or1 (pt_val (pe_call G_l_is_less (hr.mono (by first | decide | omega)) (by rfl) T.g_l_is_less T.F_l_is_less.kp T.b_l_is_less .nil pass0 (pa_cons (pe_call G_p_evaluate (hr.mono (by first | decide | omega)) (by rfl) T.g_p_evaluate T.F_p_evaluate.kp T.b_p_evaluate .nil pass0 (pa_cons (pv 4) (pa_cons (pv 11) pa_nil))) (pa_cons (pv 9) pa_nil))))))) (pss_one (ps_ret pe_bl)) pss_nil)
          (pss_one (ps_if (pt_cmpR (op_neD hr.units) (pe_call G_p_evaluate (hr.mono (by first | decide | omega)) (by rfl) T.g_p_evaluate T.F_p_evaluate.kp T.b_p_evaluate .nil pass0 (pa_cons (pv 4) (pa_cons (pe_callTy (call_dictP rfl) (by rfl) T.n_dict (by decide +kernel) (pa_cons (pe_lc (own := [("_law_name", 12)]) (g := gName 12) rfl sc_p_law.nd (pi_list (pv 3)) (blkOk_by (own := [("_law_name", 12)]) (N := ["_law_script", "_law_rng", "_law_turn", "_law_names_here", "_law_term_here", "_law_x", "_law_amount", "_law_y", "_law_one", "_law_other", "_law_far", "_law_late", "_law_name"]) (sc := defScope s_p_law) (by decide +kernel)) (fun _ _ _ _ _ => (pg_name (i := 12) sc_p_law.nd rfl (Or.inl rfl))) (fun _ _ _ _ _ => pts_nil) (fun _ _ _ _ _ => (pe_tup (pa_cons (pv 12) (pa_cons (pe_call G_l_add (hr.mono (by first | decide | omega)) (by rfl) T.g_l_add T.F_l_add.kp T.b_l_add .nil pass0 (pa_cons (pe_dget (u2 hr) (pv 5) (pv 12) (fun _ _ => rfl)) (pa_cons (pv 6) pa_nil))) pa_nil))))) pa_nil)) pa_nil))) (pe_call G_l_add (hr.mono (by first | decide | omega)) (by rfl) T.g_l_add T.F_l_add.kp T.b_l_add .nil pass0 (pa_cons (pv 8) (pa_cons (pv 6) pa_nil))) (nomark _)) (pss_one (ps_ret pe_bl)) pss_nil))))))))))))
          (pss_one (ps_ret pe_bl)))), ?_⟩
    refine ⟨.ref b, rfl, b, ns, rfl, hS, hlen, fun H0 r s0 nr R0 => ?_⟩
    refine ⟨5, rfl, by decide, by decide, for_range (n := 5) (fun _ σ H' => ∃ y2 y3 y4 y5 y6 y7 y8 y9 y10 y11, σ = [some (.ref b), some (.ref r), y2, y3, y4, y5, y6, y7, y8, y9, y10, y11, none] ∧ Rg H' r) ⟨none, none, none, none, none, none, none, none, none, none, rfl, R0⟩ ?_ ?_⟩
    · rintro i σ H1 hi ⟨y2, y3, y4, y5, y6, y7, y8, y9, y10, y11, rfl, R1⟩
      refine ⟨.ref r, rfl, r, 3, rfl, R1, by decide, by decide, fun nl H2 ss k2 R2 hnl nlr ssl nd nm => ?_⟩
      refine ⟨.ref r, rfl, .ref nl, rfl, .ref r, rfl, r, 4, rfl, R2, by decide, by decide, fun dd H3 d0 d1 k3 R3 => ⟨1, dd, rfl, rfl, ?_⟩⟩
      refine ⟨r, nl, ss, 1 + dd, rfl, R3, nlr, k3.L nlr (SqL.of hnl), by omega, by omega, by show 1 + dd ≤ (3 : Int) + 1; omega, fun v H4 t k4 R4 ht hg => ?_⟩
      have hnl4 : H4 nl = some (.lst (ss.map V.str)) := k4.1 _ _ nlr (k3.1 _ _ nlr hnl)
      have ht12 := ht.le (m := 12) (by decide)
      have vo := (hg.le (m := 12) (by decide)).vok
      have tz : t.size ≤ 40 := hg.size
      have fl := flat_size t
      have fin := flats_in hg
      have b40 : t.bt 40 ≤ 2705 := hg.bt (b := 40)
      have b81 : t.bt 81 ≤ 3812 := hg.bt (b := 81)
      -- the table x
      refine ⟨.ref nl, rfl, nl, rfl, ⟨_, SqL.of hnl4⟩, fun Dx nDx => ?_⟩
      have Drx : Dx ≠ r := R4.ne nDx
      refine lc_list (K := K) (a := nl) (xs := ss.map V.str) (fun i H' => Kp r H4 H' ∧ Rg H' r ∧ ∃ qs, qs.length = i ∧ DTab K H' Dx ss i qs 40) ⟨Kp.of (Same.new nDx), R4.same (Same.new nDx), [], rfl, DTab.nil⟩ (fun i H' _ h' => h'.1.L nlr (SqL.of hnl4)) ?_ ?_
      · rintro j x H5 hx ⟨k5, R5, qs, ql, dt⟩
        obtain ⟨s, hs, rfl⟩ := strs_at hx
        have jl : j < ss.length := (List.getElem?_eq_some_iff.mp hs).1
        refine ⟨rfl, tYes_if ?_⟩
        refine ⟨.str s, rfl, .ref r, rfl, r, rfl, R5, fun u H6 n6 d6 k6 R6 f6 => ⟨sz (by show 2 ≤ 100000; decide), fun p np => ?_⟩⟩
        obtain ⟨acc, e1, e2, e3⟩ := dt.more (H2 := H6) (p := p) (by omega) hs (fun l z => k6.1 _ _ Drx z) (fun _ _ z => RgT R5 k6 z) (FR.of' f6) np
        have kk := k5.trans (k6.trans (Kp.of (Same.new (o := .tup [.str s, u]) np)))
        exact ⟨acc, e1, e2, kk.put (H := H4) nDx Drx, R4.put nDx kk (R6.same (Same.new np)), qs ++ [_], by rw [List.length_append, ql]; rfl, e3⟩
      rintro Hx ⟨kx, Rx, qx, qlx, dtx⟩
      rw [List.length_map] at qlx dtx
      obtain ⟨ρx, hρx⟩ := ex_asg (ss := ss) (qs := qx) nd
      obtain ⟨psx, kvx, sqx, pax, tbx⟩ := dtx.done nd hρx
      refine ⟨Dx, psx, kvx, rfl, sqx, pax, fun dx ndx => ?_⟩
      have tbx' := tbx dx ndx
      have sx := Same.new (o := .dK (mergeK [] kvx)) ndx
      have Rx' := Rx.same sx
      have kx' := kx.trans (Kp.of sx)
      generalize upd Hx dx (.dK (mergeK [] kvx)) = Hx' at *
      refine ⟨.ref r, rfl, r, rfl, Rx', fun am HA na da kA RA fA => ⟨sz (by show 2 ≤ 100000; decide), fun tp ntp => ?_⟩⟩
      have sT := Same.new (o := .tup [.ref dx, am]) ntp
      refine ⟨tp, _, rfl, SqT.of upd_same, rfl, _, _, rfl, _, _, rfl, rfl, ?_⟩
      generalize upd HA tp (.tup [.ref dx, am]) = HB at *
      have RB := RA.same sT
      have kB := (kx'.trans kA).trans (Kp.of sT)
      have fAB : FR K HB am (toR (na, da)) 40 := (FR.of' fA).same sT
      have tbB := (tbx'.kp Rx' kA).same sT
      have hnlB : HB nl = some (.lst (ss.map V.str)) := kB.1 _ _ nlr hnl4
      have htB := ht12.kp R4 kB
      generalize toR (na, da) = c at *
      -- the table y
      refine ⟨.ref nl, rfl, nl, rfl, ⟨_, SqL.of hnlB⟩, fun Dy nDy => ?_⟩
      have Dry : Dy ≠ r := RB.ne nDy
      refine lc_list (K := K) (a := nl) (xs := ss.map V.str) (fun i H' => Kp r HB H' ∧ Rg H' r ∧ ∃ qs, qs.length = i ∧ DTab K H' Dy ss i qs 40) ⟨Kp.of (Same.new nDy), RB.same (Same.new nDy), [], rfl, DTab.nil⟩ (fun i H' _ h' => h'.1.L nlr (SqL.of hnlB)) ?_ ?_
      · rintro j x H5 hx ⟨k5, R5, qs, ql, dt⟩
        obtain ⟨s, hs, rfl⟩ := strs_at hx
        have jl : j < ss.length := (List.getElem?_eq_some_iff.mp hs).1
        refine ⟨rfl, tYes_if ?_⟩
        refine ⟨.str s, rfl, .ref r, rfl, r, rfl, R5, fun u H6 n6 d6 k6 R6 f6 => ⟨sz (by show 2 ≤ 100000; decide), fun p np => ?_⟩⟩
        obtain ⟨acc, e1, e2, e3⟩ := dt.more (H2 := H6) (p := p) (by omega) hs (fun l z => k6.1 _ _ Dry z) (fun _ _ z => RgT R5 k6 z) (FR.of' f6) np
        have kk := k5.trans (k6.trans (Kp.of (Same.new (o := .tup [.str s, u]) np)))
        exact ⟨acc, e1, e2, kk.put (H := HB) nDy Dry, RB.put nDy kk (R6.same (Same.new np)), qs ++ [_], by rw [List.length_append, ql]; rfl, e3⟩
      rintro Hy ⟨ky, Ry, qy, qly, dty⟩
      rw [List.length_map] at qly dty
      obtain ⟨ρy, hρy⟩ := ex_asg (ss := ss) (qs := qy) nd
      obtain ⟨psy, kvy, sqy, pay, tby⟩ := dty.done nd hρy
      refine ⟨Dy, psy, kvy, rfl, sqy, pay, fun dy ndy => ?_⟩
      have tby' := tby dy ndy
      have sy := Same.new (o := .dK (mergeK [] kvy)) ndy
      have Ry' := Ry.same sy
      have ky' := ky.trans (Kp.of sy)
      generalize upd Hy dy (.dK (mergeK [] kvy)) = Hy' at *
      have tbX := tbB.kp RB ky'
      have htY := htB.kp RB ky'
      have fC := fAB.kp RB ky'
      have hnlY : Hy' nl = some (.lst (ss.map V.str)) := ky'.1 _ _ nlr hnlB
      -- the two values
      refine ⟨v, rfl, .ref dx, rfl, v, dx, t, ρx, 40, rfl, htY, vo, by omega, by omega, tbX.sub fin, fun u1 H7 s7 f1 => ?_⟩
      refine ⟨v, rfl, .ref dy, rfl, v, dy, t, ρy, 40, rfl, htY.same s7, vo, by omega, by omega, (tby'.same s7).sub fin, fun u2 H8 s8 f2 => ?_⟩
      refine ⟨_, _, rfl, ?_⟩
      have s78 := s7.trans s8
      have f1' := f1.same s8
      have tx8 := tbX.same s78
      have ty8 := tby'.same s78
      have ht8 := htY.same s78
      have fC8 := fC.same s78
      have R8 := Ry'.same s78
      have hnl8 := s78 _ _ hnlY
      clear tbX tby' htY fC Ry' hnlY f1
      -- the distance
      refine ⟨.ref nl, rfl, nl, rfl, ⟨_, SqL.of hnl8⟩, fun Lx nLx => ?_⟩
      refine lc_list (K := K) (a := nl) (xs := ss.map V.str) (fun i H' => Same H8 H' ∧ ∃ vs, H' Lx = some (.lst vs) ∧ FRs K H' vs ((ss.take i).map ρx) 40) ⟨Same.new nLx, [], upd_same, FRs.nil⟩ (fun i H' _ h' => SqL.of (h'.1 _ _ hnl8)) ?_ ?_
      · rintro j x H9 hx ⟨s9, vs, hL, hF⟩
        obtain ⟨s, hs, rfl⟩ := strs_at hx
        have jl : j < ss.length := (List.getElem?_eq_some_iff.mp hs).1
        obtain ⟨kvs, hd, hk⟩ := tx8.same s9
        obtain ⟨u, hu, fu⟩ := hk s (List.mem_of_getElem? hs)
        have vl := hF.len
        rw [List.length_map, List.length_take] at vl
        refine ⟨rfl, tYes_if ⟨.ref dx, rfl, .str s, rfl, dx, u, rfl, ?_, vs, hL, szl (by omega), fun b o e => ?_, vs ++ [u], upd_same, ?_⟩⟩
        · have z := DGet.k (k := Sum.inr s) hd
          rw [hu] at z
          exact z
        · rw [upd_ne (ne_of_none e nLx)]; exact s9 _ _ e
        · rw [take_one hs]
          exact FRs.snoc (hF.mono fun _ _ z => z.put hL) (fu.put hL)
      rintro H10 ⟨s10, vsx, hLx, hFx⟩
      rw [List.length_map, List.take_length] at hFx
      have hnl10 := s10 _ _ hnl8
      have ty10 := ty8.same s10
      refine ⟨.ref nl, rfl, nl, rfl, ⟨_, SqL.of hnl10⟩, fun Ly nLy => ?_⟩
      refine lc_list (K := K) (a := nl) (xs := ss.map V.str) (fun i H' => Same H10 H' ∧ ∃ vs, H' Ly = some (.lst vs) ∧ FRs K H' vs ((ss.take i).map ρy) 40) ⟨Same.new nLy, [], upd_same, FRs.nil⟩ (fun i H' _ h' => SqL.of (h'.1 _ _ hnl10)) ?_ ?_
      · rintro j x H9 hx ⟨s9, vs, hL, hF⟩
        obtain ⟨s, hs, rfl⟩ := strs_at hx
        have jl : j < ss.length := (List.getElem?_eq_some_iff.mp hs).1
        obtain ⟨kvs, hd, hk⟩ := ty10.same s9
        obtain ⟨u, hu, fu⟩ := hk s (List.mem_of_getElem? hs)
        have vl := hF.len
        rw [List.length_map, List.length_take] at vl
        refine ⟨rfl, tYes_if ⟨.ref dy, rfl, .str s, rfl, dy, u, rfl, ?_, vs, hL, szl (by omega), fun b o e => ?_, vs ++ [u], upd_same, ?_⟩⟩
        · have z := DGet.k (k := Sum.inr s) hd
          rw [hu] at z
          exact z
        · rw [upd_ne (ne_of_none e nLy)]; exact s9 _ _ e
        · rw [take_one hs]
          exact FRs.snoc (hF.mono fun _ _ z => z.put hL) (fu.put hL)
      rintro H11 ⟨s11, vsy, hLy, hFy⟩
      rw [List.length_map, List.take_length] at hFy
      have lx : vsx.length = ss.length := by rw [hFx.len, List.length_map]
      have ly : vsy.length = ss.length := by rw [hFy.len, List.length_map]
      refine ⟨Lx, Ly, vsx, vsy, ss.map ρx, ss.map ρy, 40, rfl, SqL.of (s11 _ _ hLx), SqL.of hLy, hFx.mono (fun _ _ z => z.same s11), hFy, by omega, by omega, by decide, by decide, fun vf H12 s12 ff => ?_⟩
      have sA := s10.trans (s11.trans s12)
      have far := hg.near (ρ := ρx) (μ := ρy)
      generalize hfar : lmax (0 :: gaps (ss.map ρx) (ss.map ρy)) = far0 at ff far
      have e1 := f1'.same sA
      have e2 := f2.same sA
      refine ⟨vf, rfl, u1, rfl, u2, rfl, u1, u2, _, _, rfl, e1.up (by omega), e2.up (by omega), fun p1 np1 => ?_⟩
      refine ⟨.ref p1, _, _, rfl, FR.new (e1.bt.sub e2.bt), fun p2 np2 fp2 => ?_⟩
      have sP := (Same.new (o := .tup [.int (ofR (t.val ρx - t.val ρy)).1, .int (ofR (t.val ρx - t.val ρy)).2]) np1).trans (Same.new (o := .tup [.int (ofR (rabs (t.val ρx - t.val ρy))).1, .int (ofR (rabs (t.val ρx - t.val ρy))).2]) np2)
      refine ⟨vf, .ref p2, ofR far0, ofR (rabs (t.val ρx - t.val ρy)), rfl, (ff.same sP).up (by omega), fp2.up (by omega), _, rfl, ifF (by rw [rlt_R]; exact decide_eq_false (Rat.not_lt.mpr far)) ?_⟩
      have sB := sA.trans sP
      generalize upd (upd H12 p1 (.tup [.int (ofR (t.val ρx - t.val ρy)).1, .int (ofR (t.val ρx - t.val ρy)).2])) p2 (.tup [.int (ofR (rabs (t.val ρx - t.val ρy))).1, .int (ofR (rabs (t.val ρx - t.val ρy))).2]) = H13 at sB
      have f1B := f1'.same sB
      have f2B := f2.same sB
      have txB := tx8.same sB
      have tyB := ty8.same sB
      have htB := ht8.same sB
      have fCB := fC8.same sB
      have RB13 := R8.same sB
      have hnl13 := sB _ _ hnl8
      clear tx8 ty8 ht8 fC8 R8 hnl8 f1' f2 e1 e2
      -- the later of both
      refine ⟨.ref nl, rfl, nl, rfl, ⟨_, SqL.of hnl13⟩, fun Dz nDz => ?_⟩
      refine lc_list (K := K) (a := nl) (xs := ss.map V.str) (fun i H' => Same H13 H' ∧ DTab K H' Dz ss i ((ss.take i).map fun s => max (ρx s) (ρy s)) 40) ⟨Same.new nDz, DTab.nil⟩ (fun i H' _ h' => SqL.of (h'.1 _ _ hnl13)) ?_ ?_
      · rintro j x H14 hx ⟨s14, dt⟩
        obtain ⟨s, hs, rfl⟩ := strs_at hx
        have jl : j < ss.length := (List.getElem?_eq_some_iff.mp hs).1
        obtain ⟨kvx, hdx, hkx⟩ := txB.same s14
        obtain ⟨ux, hux, fux⟩ := hkx s (List.mem_of_getElem? hs)
        obtain ⟨kvy, hdy, hky⟩ := tyB.same s14
        obtain ⟨uy, huy, fuy⟩ := hky s (List.mem_of_getElem? hs)
        refine ⟨rfl, tYes_if ⟨.str s, rfl, .ref dx, rfl, .str s, rfl, dx, ux, rfl, ?_, .ref dy, rfl, .str s, rfl, dy, uy, rfl, ?_, sz (by show 2 ≤ 100000; decide), fun l2 nl2 => ?_⟩⟩
        · have z := DGet.k (k := Sum.inr s) hdx
          rw [hux] at z
          exact z
        · have z := DGet.k (k := Sum.inr s) hdy
          rw [huy] at z
          exact z
        have sl := Same.new (o := .lst [ux, uy]) nl2
        refine ⟨l2, [ux, uy], [ρx s, ρy s], 40, rfl, SqL.of upd_same, FRs.cons (fux.same sl) (FRs.cons (fuy.same sl) FRs.nil), by decide, by show 0 < 2; decide, fun um _ fm => ⟨sz (by show 2 ≤ 100000; decide), fun p np => ?_⟩⟩
        obtain ⟨acc, q1, q2, q3⟩ := dt.more (p := p) (by omega) hs (fun l z => sl _ _ z) (fun _ _ z => Same.T sl z) fm np
        refine ⟨acc, q1, q2, fun b o e => ?_, ?_⟩
        · rw [upd_ne (ne_of_none e nDz)]; exact (sl.trans (Same.new np)) _ _ (s14 _ _ e)
        · rw [take_one hs]; exact q3
      rintro H15 ⟨s15, dt15⟩
      rw [List.length_map, List.take_length] at dt15
      obtain ⟨psz, kvz, sqz, paz, tbz⟩ := dt15.done nd asg_map
      refine ⟨Dz, psz, kvz, rfl, sqz, paz, fun dz ndz => ?_⟩
      have tbz' := tbz dz ndz
      have s16 := s15.trans (Same.new (o := .dK (mergeK [] kvz)) ndz)
      generalize upd H15 dz (.dK (mergeK [] kvz)) = H16 at *
      have m1 := Good.mono (ss := ss) (ρ := ρx) (μ := fun s => max (ρx s) (ρy s)) (fun s _ => by show ρx s ≤ max (ρx s) (ρy s); rw [Rat.max_def]; grind) hg
      have m2 := Good.mono (ss := ss) (ρ := ρy) (μ := fun s => max (ρx s) (ρy s)) (fun s _ => by show ρy s ≤ max (ρx s) (ρy s); rw [Rat.max_def]; grind) hg
      refine ⟨v, rfl, .ref dz, rfl, v, dz, t, _, 40, rfl, htB.same s16, vo, by omega, by omega, tbz'.sub fin, fun u3 H17 s17 f3 => ?_⟩
      refine ⟨u1, rfl, u3, u1, ofR _, ofR (t.val ρx), rfl, f3.up (by omega), (f1B.same (s16.trans s17)).up (by omega), _, rfl, ifF (by rw [rlt_R]; exact decide_eq_false (Rat.not_lt.mpr m1)) ?_⟩
      refine ⟨v, rfl, .ref dz, rfl, v, dz, t, _, 40, rfl, htB.same (s16.trans s17), vo, by omega, by omega, (tbz'.same s17).sub fin, fun u4 H18 s18 f4 => ?_⟩
      have s1618 := s16.trans (s17.trans s18)
      refine ⟨u2, rfl, u4, u2, ofR _, ofR (t.val ρy), rfl, f4.up (by omega), (f2B.same s1618).up (by omega), _, rfl, ifF (by rw [rlt_R]; exact decide_eq_false (Rat.not_lt.mpr m2)) ?_⟩
      -- shifted
      have tx18 := txB.same s1618
      have fc18 := fCB.same s1618
      have hnl18 := s1618 _ _ hnl13
      refine ⟨v, rfl, .ref nl, rfl, nl, rfl, ⟨_, SqL.of hnl18⟩, fun Dw nDw => ?_⟩
      refine lc_list (K := K) (a := nl) (xs := ss.map V.str) (fun i H' => Same H18 H' ∧ DTab K H' Dw ss i ((ss.take i).map fun s => ρx s + c) 81) ⟨Same.new nDw, DTab.nil⟩ (fun i H' _ h' => SqL.of (h'.1 _ _ hnl18)) ?_ ?_
      · rintro j x H19 hx ⟨s19, dt⟩
        obtain ⟨s, hs, rfl⟩ := strs_at hx
        have jl : j < ss.length := (List.getElem?_eq_some_iff.mp hs).1
        obtain ⟨kvx, hdx, hkx⟩ := tx18.same s19
        obtain ⟨ux, hux, fux⟩ := hkx s (List.mem_of_getElem? hs)
        have fc := fc18.same s19
        refine ⟨rfl, tYes_if ⟨.str s, rfl, .ref dx, rfl, .str s, rfl, dx, ux, rfl, ?_, am, rfl, ux, am, ρx s, c, rfl, fux.up (by decide), fc.up (by decide), fun p1 np1 => ⟨sz (by show 2 ≤ 100000; decide), fun p np => ?_⟩⟩⟩
        · have z := DGet.k (k := Sum.inr s) hdx
          rw [hux] at z
          exact z
        have sl := Same.new (o := .tup [.int (ofR (ρx s + c)).1, .int (ofR (ρx s + c)).2]) np1
        obtain ⟨acc, q1, q2, q3⟩ := dt.more (p := p) (by omega) hs (fun l z => sl _ _ z) (fun _ _ z => Same.T sl z) (FR.new (fux.bt.add fc.bt)) np
        refine ⟨acc, q1, q2, fun b o e => ?_, ?_⟩
        · rw [upd_ne (ne_of_none e nDw)]; exact (sl.trans (Same.new np)) _ _ (s19 _ _ e)
        · rw [take_one hs]; exact q3
      rintro H20 ⟨s20, dt20⟩
      rw [List.length_map, List.take_length] at dt20
      obtain ⟨psw, kvw, sqw, paw, tbw⟩ := dt20.done nd asg_map
      refine ⟨Dw, psw, kvw, rfl, sqw, paw, fun dw ndw => ?_⟩
      have tbw' := tbw dw ndw
      have s21 := s20.trans (Same.new (o := .dK (mergeK [] kvw)) ndw)
      generalize upd H20 dw (.dK (mergeK [] kvw)) = H21 at *
      have sh := hg.shift (ρ := ρx) (μ := fun s => ρx s + c) (c := c) fun s _ => rfl
      refine ⟨v, dw, t, _, 81, rfl, htB.same (s1618.trans s21), vo, by omega, by omega, tbw'.sub fin, fun u5 H22 s22 f5 => ?_⟩
      have f1C := f1B.same (s1618.trans (s21.trans s22))
      have fCC := fc18.same (s21.trans s22)
      refine ⟨u1, rfl, am, rfl, u1, am, t.val ρx, c, rfl, f1C.up (by omega), fCC.up (by omega), fun p6 np6 => ?_⟩
      rw [sh] at f5
      obtain ⟨p5, rfl, hp5⟩ := f5.fr
      have s23 := Same.new (o := .tup [.int (ofR (t.val ρx + c)).1, .int (ofR (t.val ρx + c)).2]) np6
      refine ⟨.tuple [.int (ofR (t.val ρx + c)).1, .int (ofR (t.val ρx + c)).2], .tuple [.int (ofR (t.val ρx + c)).1, .int (ofR (t.val ρx + c)).2], .tup (Same.T s23 hp5) (.cons (.int _) (.cons (.int _) .nil)), .tup (SqT.of upd_same) (.cons (.int _) (.cons (.int _) .nil)), rfl, rfl, _, rfl, ifF (by rw [ne_same]; rfl) ?_⟩
      exact ⟨_, _, _, _, _, _, _, _, _, _, rfl, (RB13.same (s1618.trans (s21.trans (s22.trans s23))))⟩
    · rintro σ H1 ⟨y2, y3, y4, y5, y6, y7, y8, y9, y10, y11, rfl, R1⟩
      exact w H1
end
theorem all_mk {l : PySem.W.OpenLaw} {w : World} {K : PySem.W.Frag} {h : Heap} {mg : Str → Option Value} {fa : Addr} (X : K.In h) (G : h.Ns mainGlobals mg) (hfa : mg "law" = some (.ref fa))
    {od0 an0 : Option Addr} {sl0 : Array (Option Value)} {oc0 kV0 dc0 pm0 cd0 ct0 : Value} {f0 : Addr}
    {od1 an1 : Option Addr} {sl1 : Array (Option Value)} {oc1 kV1 dc1 pm1 cd1 ct1 : Value} {f1 : Addr}
    {od2 an2 : Option Addr} {sl2 : Array (Option Value)} {oc2 kV2 dc2 pm2 cd2 ct2 : Value} {f2 : Addr}
    {od3 an3 : Option Addr} {sl3 : Array (Option Value)} {oc3 kV3 dc3 pm3 cd3 ct3 : Value} {f3 : Addr}
    {od4 an4 : Option Addr} {sl4 : Array (Option Value)} {oc4 kV4 dc4 pm4 cd4 ct4 : Value} {f4 : Addr}
    {od5 an5 : Option Addr} {sl5 : Array (Option Value)} {oc5 dc5 pm5 cd5 ct5 : Value} {f5 : Addr}
    {od6 an6 : Option Addr} {sl6 : Array (Option Value)} {oc6 kV6 dc6 pm6 cd6 ct6 : Value} {f6 : Addr}
    {od7 an7 : Option Addr} {sl7 : Array (Option Value)} {oc7 kV7 dc7 pm7 cd7 ct7 : Value} {f7 : Addr}
    {od8 an8 : Option Addr} {sl8 : Array (Option Value)} {oc8 kV8 dc8 pm8 cd8 ct8 : Value} {f8 : Addr}
    {od9 an9 : Option Addr} {sl9 : Array (Option Value)} {oc9 kV9 dc9 pm9 cd9 ct9 : Value} {f9 : Addr}
    {od10 an10 : Option Addr} {sl10 : Array (Option Value)} {oc10 kV10 dc10 pm10 cd10 ct10 : Value} {f10 : Addr}
    {od11 an11 : Option Addr} {sl11 : Array (Option Value)} {oc11 kV11 dc11 pm11 cd11 ct11 : Value} {f11 : Addr}
    {od12 an12 : Option Addr} {sl12 : Array (Option Value)} {oc12 kV12 dc12 pm12 cd12 ct12 : Value} {f12 : Addr}
    {od13 an13 : Option Addr} {sl13 : Array (Option Value)} {oc13 kV13 dc13 pm13 cd13 ct13 : Value} {f13 : Addr}
    {od14 an14 : Option Addr} {sl14 : Array (Option Value)} {oc14 kV14 dc14 pm14 cd14 ct14 : Value} {f14 : Addr}
    {od15 an15 : Option Addr} {sl15 : Array (Option Value)} {oc15 kV15 dc15 pm15 cd15 ct15 : Value} {f15 : Addr}
    {od16 an16 : Option Addr} {sl16 : Array (Option Value)} {oc16 kV16 dc16 pm16 cd16 ct16 : Value} {f16 : Addr}
    {od17 an17 : Option Addr} {sl17 : Array (Option Value)} {oc17 kV17 dc17 pm17 cd17 ct17 : Value} {f17 : Addr}
    {od18 an18 : Option Addr} {sl18 : Array (Option Value)} {oc18 kV18 dc18 pm18 cd18 ct18 : Value} {f18 : Addr}
    {od19 an19 : Option Addr} {sl19 : Array (Option Value)} {oc19 kV19 dc19 pm19 cd19 ct19 : Value} {f19 : Addr}
    {od20 an20 : Option Addr} {sl20 : Array (Option Value)} {oc20 kV20 dc20 pm20 cd20 ct20 : Value} {f20 : Addr}
    {od21 an21 : Option Addr} {sl21 : Array (Option Value)} {oc21 kV21 dc21 pm21 cd21 ct21 : Value} {f21 : Addr}
    {od22 an22 : Option Addr} {sl22 : Array (Option Value)} {oc22 kV22 dc22 pm22 cd22 ct22 : Value} {f22 : Addr}
    {od23 an23 : Option Addr} {sl23 : Array (Option Value)} {oc23 kV23 dc23 pm23 cd23 ct23 : Value} {f23 : Addr}
    {od24 an24 : Option Addr} {sl24 : Array (Option Value)} {oc24 kV24 dc24 pm24 cd24 ct24 : Value} {f24 : Addr}
    {od25 an25 : Option Addr} {sl25 : Array (Option Value)} {oc25 kV25 dc25 pm25 cd25 ct25 : Value} {f25 : Addr}
    {od26 an26 : Option Addr} {sl26 : Array (Option Value)} {oc26 kV26 dc26 pm26 cd26 ct26 : Value} {f26 : Addr}
    {od27 an27 : Option Addr} {sl27 : Array (Option Value)} {oc27 kV27 dc27 pm27 cd27 ct27 : Value} {f27 : Addr}
    {od28 an28 : Option Addr} {sl28 : Array (Option Value)} {oc28 kV28 dc28 pm28 cd28 ct28 : Value} {f28 : Addr}
    {od29 an29 : Option Addr} {sl29 : Array (Option Value)} {oc29 kV29 dc29 pm29 cd29 ct29 : Value} {f29 : Addr}
    {od30 an30 : Option Addr} {sl30 : Array (Option Value)} {oc30 kV30 dc30 pm30 cd30 ct30 : Value} {f30 : Addr}
    {od31 an31 : Option Addr} {sl31 : Array (Option Value)} {oc31 kV31 dc31 pm31 cd31 ct31 : Value} {f31 : Addr}
    {od32 an32 : Option Addr} {sl32 : Array (Option Value)} {oc32 kV32 dc32 pm32 cd32 ct32 : Value} {f32 : Addr}
    {dT1 : Addr} {do1 : Option Addr} {dn1 : Nat} {ds1 : Array (Option Value)} {dt1_0 : Tok}
    {kD5 : Addr}
    {o_ZERO : Addr} {od_ZERO : Option Addr} {on_ZERO : Nat} {os_ZERO : Array (Option Value)} {tk_ZERO_0 tk_ZERO_1 : Tok}
    (a0 : PySem.W.nsIn K mainGlobals "greatest_divisor" = some (some (.ref f0)))
    (l0 : K.lookup f0 = some ⟨oc0, od0, .func (PySem.W.fnOf "greatest_divisor" "greatest_divisor" (defArgs s_p_greatest_divisor) (defBody s_p_greatest_divisor) (defScope s_p_greatest_divisor) .none kV0 dc0 pm0 an0 cd0 ct0), sl0⟩) (c0 : PySem.W.codeIn K cd0 "greatest_divisor" = true) (k0 : PySem.W.keepIn K (.ref f0) = true)
    (a1 : PySem.W.nsIn K mainGlobals "fraction" = some (some (.ref f1)))
    (l1 : K.lookup f1 = some ⟨oc1, od1, .func (PySem.W.fnOf "fraction" "fraction" (defArgs s_p_fraction) (defBody s_p_fraction) (defScope s_p_fraction) (.ref dT1) kV1 dc1 pm1 an1 cd1 ct1), sl1⟩) (c1 : PySem.W.codeIn K cd1 "fraction" = true) (k1 : PySem.W.keepIn K (.ref f1) = true)
    (d1 : K.lookup dT1 = some ⟨.type "tuple", do1, .seq #[.int 1 dt1_0] dn1, ds1⟩)
    (a2 : PySem.W.nsIn K mainGlobals "add" = some (some (.ref f2)))
    (l2 : K.lookup f2 = some ⟨oc2, od2, .func (PySem.W.fnOf "add" "add" (defArgs s_p_add) (defBody s_p_add) (defScope s_p_add) .none kV2 dc2 pm2 an2 cd2 ct2), sl2⟩) (c2 : PySem.W.codeIn K cd2 "add" = true) (k2 : PySem.W.keepIn K (.ref f2) = true)
    (a3 : PySem.W.nsIn K mainGlobals "multiply" = some (some (.ref f3)))
    (l3 : K.lookup f3 = some ⟨oc3, od3, .func (PySem.W.fnOf "multiply" "multiply" (defArgs s_p_multiply) (defBody s_p_multiply) (defScope s_p_multiply) .none kV3 dc3 pm3 an3 cd3 ct3), sl3⟩) (c3 : PySem.W.codeIn K cd3 "multiply" = true) (k3 : PySem.W.keepIn K (.ref f3) = true)
    (a4 : PySem.W.nsIn K mainGlobals "is_less" = some (some (.ref f4)))
    (l4 : K.lookup f4 = some ⟨oc4, od4, .func (PySem.W.fnOf "is_less" "is_less" (defArgs s_p_is_less) (defBody s_p_is_less) (defScope s_p_is_less) .none kV4 dc4 pm4 an4 cd4 ct4), sl4⟩) (c4 : PySem.W.codeIn K cd4 "is_less" = true) (k4 : PySem.W.keepIn K (.ref f4) = true)
    (a5 : PySem.W.nsIn K mainGlobals "total" = some (some (.ref f5)))
    (l5 : K.lookup f5 = some ⟨oc5, od5, .func (PySem.W.fnOf "total" "total" (defArgs s_p_total) (defBody s_p_total) (defScope s_p_total) .none (.ref kD5) dc5 pm5 an5 cd5 ct5), sl5⟩) (c5 : PySem.W.codeIn K cd5 "total" = true) (k5 : PySem.W.keepIn K (.ref f5) = true)
    (kd5_0 : PySem.W.nsIn K kD5 "start" = some (some (.ref o_ZERO)))
    (a6 : PySem.W.nsIn K mainGlobals "index_of_max" = some (some (.ref f6)))
    (l6 : K.lookup f6 = some ⟨oc6, od6, .func (PySem.W.fnOf "index_of_max" "index_of_max" (defArgs s_p_index_of_max) (defBody s_p_index_of_max) (defScope s_p_index_of_max) .none kV6 dc6 pm6 an6 cd6 ct6), sl6⟩) (c6 : PySem.W.codeIn K cd6 "index_of_max" = true) (k6 : PySem.W.keepIn K (.ref f6) = true)
    (a7 : PySem.W.nsIn K mainGlobals "index_of_min" = some (some (.ref f7)))
    (l7 : K.lookup f7 = some ⟨oc7, od7, .func (PySem.W.fnOf "index_of_min" "index_of_min" (defArgs s_p_index_of_min) (defBody s_p_index_of_min) (defScope s_p_index_of_min) .none kV7 dc7 pm7 an7 cd7 ct7), sl7⟩) (c7 : PySem.W.codeIn K cd7 "index_of_min" = true) (k7 : PySem.W.keepIn K (.ref f7) = true)
    (a8 : PySem.W.nsIn K mainGlobals "subterms" = some (some (.ref f8)))
    (l8 : K.lookup f8 = some ⟨oc8, od8, .func (PySem.W.fnOf "subterms" "subterms" (defArgs s_p_subterms) (defBody s_p_subterms) (defScope s_p_subterms) .none kV8 dc8 pm8 an8 cd8 ct8), sl8⟩) (c8 : PySem.W.codeIn K cd8 "subterms" = true) (k8 : PySem.W.keepIn K (.ref f8) = true)
    (a9 : PySem.W.nsIn K mainGlobals "event_names" = some (some (.ref f9)))
    (l9 : K.lookup f9 = some ⟨oc9, od9, .func (PySem.W.fnOf "event_names" "event_names" (defArgs s_p_event_names) (defBody s_p_event_names) (defScope s_p_event_names) .none kV9 dc9 pm9 an9 cd9 ct9), sl9⟩) (c9 : PySem.W.codeIn K cd9 "event_names" = true) (k9 : PySem.W.keepIn K (.ref f9) = true)
    (a10 : PySem.W.nsIn K mainGlobals "median_of" = some (some (.ref f10)))
    (l10 : K.lookup f10 = some ⟨oc10, od10, .func (PySem.W.fnOf "median_of" "median_of" (defArgs s_p_median_of) (defBody s_p_median_of) (defScope s_p_median_of) .none kV10 dc10 pm10 an10 cd10 ct10), sl10⟩) (c10 : PySem.W.codeIn K cd10 "median_of" = true) (k10 : PySem.W.keepIn K (.ref f10) = true)
    (a11 : PySem.W.nsIn K mainGlobals "value_of" = some (some (.ref f11)))
    (l11 : K.lookup f11 = some ⟨oc11, od11, .func (PySem.W.fnOf "value_of" "value_of" (defArgs s_p_value_of) (defBody s_p_value_of) (defScope s_p_value_of) .none kV11 dc11 pm11 an11 cd11 ct11), sl11⟩) (c11 : PySem.W.codeIn K cd11 "value_of" = true) (k11 : PySem.W.keepIn K (.ref f11) = true)
    (a12 : PySem.W.nsIn K mainGlobals "check_names" = some (some (.ref f12)))
    (l12 : K.lookup f12 = some ⟨oc12, od12, .func (PySem.W.fnOf "check_names" "check_names" (defArgs s_p_check_names) (defBody s_p_check_names) (defScope s_p_check_names) .none kV12 dc12 pm12 an12 cd12 ct12), sl12⟩) (c12 : PySem.W.codeIn K cd12 "check_names" = true) (k12 : PySem.W.keepIn K (.ref f12) = true)
    (a13 : PySem.W.nsIn K mainGlobals "evaluate" = some (some (.ref f13)))
    (l13 : K.lookup f13 = some ⟨oc13, od13, .func (PySem.W.fnOf "evaluate" "evaluate" (defArgs s_p_evaluate) (defBody s_p_evaluate) (defScope s_p_evaluate) .none kV13 dc13 pm13 an13 cd13 ct13), sl13⟩) (c13 : PySem.W.codeIn K cd13 "evaluate" = true) (k13 : PySem.W.keepIn K (.ref f13) = true)
    (a14 : PySem.W.nsIn K mainGlobals "_law_source" = some (some (.ref f14)))
    (l14 : K.lookup f14 = some ⟨oc14, od14, .func (PySem.W.fnOf "_law_source" "_law_source" (defArgs s_l_source) (defBody s_l_source) (defScope s_l_source) .none kV14 dc14 pm14 an14 cd14 ct14), sl14⟩) (c14 : PySem.W.codeIn K cd14 "_law_source" = true) (k14 : PySem.W.keepIn K (.ref f14) = true)
    (a15 : PySem.W.nsIn K mainGlobals "_law_draw" = some (some (.ref f15)))
    (l15 : K.lookup f15 = some ⟨oc15, od15, .func (PySem.W.fnOf "_law_draw" "_law_draw" (defArgs s_l_draw) (defBody s_l_draw) (defScope s_l_draw) .none kV15 dc15 pm15 an15 cd15 ct15), sl15⟩) (c15 : PySem.W.codeIn K cd15 "_law_draw" = true) (k15 : PySem.W.keepIn K (.ref f15) = true)
    (a16 : PySem.W.nsIn K mainGlobals "_law_choice" = some (some (.ref f16)))
    (l16 : K.lookup f16 = some ⟨oc16, od16, .func (PySem.W.fnOf "_law_choice" "_law_choice" (defArgs s_l_choice) (defBody s_l_choice) (defScope s_l_choice) .none kV16 dc16 pm16 an16 cd16 ct16), sl16⟩) (c16 : PySem.W.codeIn K cd16 "_law_choice" = true) (k16 : PySem.W.keepIn K (.ref f16) = true)
    (a17 : PySem.W.nsIn K mainGlobals "_law_reduce" = some (some (.ref f17)))
    (l17 : K.lookup f17 = some ⟨oc17, od17, .func (PySem.W.fnOf "_law_reduce" "_law_reduce" (defArgs s_l_reduce) (defBody s_l_reduce) (defScope s_l_reduce) .none kV17 dc17 pm17 an17 cd17 ct17), sl17⟩) (c17 : PySem.W.codeIn K cd17 "_law_reduce" = true) (k17 : PySem.W.keepIn K (.ref f17) = true)
    (a18 : PySem.W.nsIn K mainGlobals "_law_add" = some (some (.ref f18)))
    (l18 : K.lookup f18 = some ⟨oc18, od18, .func (PySem.W.fnOf "_law_add" "_law_add" (defArgs s_l_add) (defBody s_l_add) (defScope s_l_add) .none kV18 dc18 pm18 an18 cd18 ct18), sl18⟩) (c18 : PySem.W.codeIn K cd18 "_law_add" = true) (k18 : PySem.W.keepIn K (.ref f18) = true)
    (a19 : PySem.W.nsIn K mainGlobals "_law_subtract" = some (some (.ref f19)))
    (l19 : K.lookup f19 = some ⟨oc19, od19, .func (PySem.W.fnOf "_law_subtract" "_law_subtract" (defArgs s_l_subtract) (defBody s_l_subtract) (defScope s_l_subtract) .none kV19 dc19 pm19 an19 cd19 ct19), sl19⟩) (c19 : PySem.W.codeIn K cd19 "_law_subtract" = true) (k19 : PySem.W.keepIn K (.ref f19) = true)
    (a20 : PySem.W.nsIn K mainGlobals "_law_is_less" = some (some (.ref f20)))
    (l20 : K.lookup f20 = some ⟨oc20, od20, .func (PySem.W.fnOf "_law_is_less" "_law_is_less" (defArgs s_l_is_less) (defBody s_l_is_less) (defScope s_l_is_less) .none kV20 dc20 pm20 an20 cd20 ct20), sl20⟩) (c20 : PySem.W.codeIn K cd20 "_law_is_less" = true) (k20 : PySem.W.keepIn K (.ref f20) = true)
    (a21 : PySem.W.nsIn K mainGlobals "_law_maximum" = some (some (.ref f21)))
    (l21 : K.lookup f21 = some ⟨oc21, od21, .func (PySem.W.fnOf "_law_maximum" "_law_maximum" (defArgs s_l_maximum) (defBody s_l_maximum) (defScope s_l_maximum) .none kV21 dc21 pm21 an21 cd21 ct21), sl21⟩) (c21 : PySem.W.codeIn K cd21 "_law_maximum" = true) (k21 : PySem.W.keepIn K (.ref f21) = true)
    (a22 : PySem.W.nsIn K mainGlobals "_law_abs" = some (some (.ref f22)))
    (l22 : K.lookup f22 = some ⟨oc22, od22, .func (PySem.W.fnOf "_law_abs" "_law_abs" (defArgs s_l_abs) (defBody s_l_abs) (defScope s_l_abs) .none kV22 dc22 pm22 an22 cd22 ct22), sl22⟩) (c22 : PySem.W.codeIn K cd22 "_law_abs" = true) (k22 : PySem.W.keepIn K (.ref f22) = true)
    (a23 : PySem.W.nsIn K mainGlobals "_law_small" = some (some (.ref f23)))
    (l23 : K.lookup f23 = some ⟨oc23, od23, .func (PySem.W.fnOf "_law_small" "_law_small" (defArgs s_l_small) (defBody s_l_small) (defScope s_l_small) .none kV23 dc23 pm23 an23 cd23 ct23), sl23⟩) (c23 : PySem.W.codeIn K cd23 "_law_small" = true) (k23 : PySem.W.keepIn K (.ref f23) = true)
    (a24 : PySem.W.nsIn K mainGlobals "_law_wide" = some (some (.ref f24)))
    (l24 : K.lookup f24 = some ⟨oc24, od24, .func (PySem.W.fnOf "_law_wide" "_law_wide" (defArgs s_l_wide) (defBody s_l_wide) (defScope s_l_wide) .none kV24 dc24 pm24 an24 cd24 ct24), sl24⟩) (c24 : PySem.W.codeIn K cd24 "_law_wide" = true) (k24 : PySem.W.keepIn K (.ref f24) = true)
    (a25 : PySem.W.nsIn K mainGlobals "_law_letters" = some (some (.ref f25)))
    (l25 : K.lookup f25 = some ⟨oc25, od25, .func (PySem.W.fnOf "_law_letters" "_law_letters" (defArgs s_l_letters) (defBody s_l_letters) (defScope s_l_letters) .none kV25 dc25 pm25 an25 cd25 ct25), sl25⟩) (c25 : PySem.W.codeIn K cd25 "_law_letters" = true) (k25 : PySem.W.keepIn K (.ref f25) = true)
    (a26 : PySem.W.nsIn K mainGlobals "_law_is_name" = some (some (.ref f26)))
    (l26 : K.lookup f26 = some ⟨oc26, od26, .func (PySem.W.fnOf "_law_is_name" "_law_is_name" (defArgs s_l_is_name) (defBody s_l_is_name) (defScope s_l_is_name) .none kV26 dc26 pm26 an26 cd26 ct26), sl26⟩) (c26 : PySem.W.codeIn K cd26 "_law_is_name" = true) (k26 : PySem.W.keepIn K (.ref f26) = true)
    (a27 : PySem.W.nsIn K mainGlobals "_law_plain" = some (some (.ref f27)))
    (l27 : K.lookup f27 = some ⟨oc27, od27, .func (PySem.W.fnOf "_law_plain" "_law_plain" (defArgs s_l_plain) (defBody s_l_plain) (defScope s_l_plain) .none kV27 dc27 pm27 an27 cd27 ct27), sl27⟩) (c27 : PySem.W.codeIn K cd27 "_law_plain" = true) (k27 : PySem.W.keepIn K (.ref f27) = true)
    (a28 : PySem.W.nsIn K mainGlobals "_law_names" = some (some (.ref f28)))
    (l28 : K.lookup f28 = some ⟨oc28, od28, .func (PySem.W.fnOf "_law_names" "_law_names" (defArgs s_l_names) (defBody s_l_names) (defScope s_l_names) .none kV28 dc28 pm28 an28 cd28 ct28), sl28⟩) (c28 : PySem.W.codeIn K cd28 "_law_names" = true) (k28 : PySem.W.keepIn K (.ref f28) = true)
    (a29 : PySem.W.nsIn K mainGlobals "_law_shares" = some (some (.ref f29)))
    (l29 : K.lookup f29 = some ⟨oc29, od29, .func (PySem.W.fnOf "_law_shares" "_law_shares" (defArgs s_l_shares) (defBody s_l_shares) (defScope s_l_shares) .none kV29 dc29 pm29 an29 cd29 ct29), sl29⟩) (c29 : PySem.W.codeIn K cd29 "_law_shares" = true) (k29 : PySem.W.keepIn K (.ref f29) = true)
    (a30 : PySem.W.nsIn K mainGlobals "_law_term" = some (some (.ref f30)))
    (l30 : K.lookup f30 = some ⟨oc30, od30, .func (PySem.W.fnOf "_law_term" "_law_term" (defArgs s_l_term) (defBody s_l_term) (defScope s_l_term) .none kV30 dc30 pm30 an30 cd30 ct30), sl30⟩) (c30 : PySem.W.codeIn K cd30 "_law_term" = true) (k30 : PySem.W.keepIn K (.ref f30) = true)
    (a31 : PySem.W.nsIn K mainGlobals "_law_distance" = some (some (.ref f31)))
    (l31 : K.lookup f31 = some ⟨oc31, od31, .func (PySem.W.fnOf "_law_distance" "_law_distance" (defArgs s_l_distance) (defBody s_l_distance) (defScope s_l_distance) .none kV31 dc31 pm31 an31 cd31 ct31), sl31⟩) (c31 : PySem.W.codeIn K cd31 "_law_distance" = true) (k31 : PySem.W.keepIn K (.ref f31) = true)
    (a32 : PySem.W.nsIn K mainGlobals "law" = some (some (.ref f32)))
    (l32 : K.lookup f32 = some ⟨oc32, od32, .func (PySem.W.fnOf "law" "law" (defArgs s_p_law) (defBody s_p_law) (defScope s_p_law) .none kV32 dc32 pm32 an32 cd32 ct32), sl32⟩) (c32 : PySem.W.codeIn K cd32 "law" = true) (k32 : PySem.W.keepIn K (.ref f32) = true)
    (z0 : PySem.W.nsIn K mainGlobals "abs" = some none)
    (z1 : PySem.W.nsIn K mainGlobals "enumerate" = some none)
    (z2 : PySem.W.nsIn K mainGlobals "list" = some none)
    (z3 : PySem.W.nsIn K mainGlobals "zip" = some none)
    (z4 : PySem.W.nsIn K mainGlobals "len" = some none)
    (z5 : PySem.W.nsIn K mainGlobals "all" = some none)
    (z6 : PySem.W.nsIn K mainGlobals "set" = some none)
    (z7 : PySem.W.nsIn K mainGlobals "range" = some none)
    (z8 : PySem.W.nsIn K mainGlobals "max" = some none)
    (z9 : PySem.W.nsIn K mainGlobals "sum" = some none)
    (z10 : PySem.W.nsIn K mainGlobals "tuple" = some none)
    (z11 : PySem.W.nsIn K mainGlobals "dict" = some none)
    (q_ZERO : PySem.W.nsIn K mainGlobals "ZERO" = some (some (.ref o_ZERO))) (m_ZERO : K.lookup o_ZERO = some ⟨.type "tuple", od_ZERO, .seq #[.int 0 tk_ZERO_0, .int 1 tk_ZERO_1] on_ZERO, os_ZERO⟩)
    : ∃ fd : FuncData, (∀ (s : Shared) (v : Value), BindsTo s fd ⟨[v], []⟩ [("_law_script", v)]) ∧ ∀ base : Heap, K.In base → base.Ns mainGlobals mg → FnOk l.prog w K mg base CX0 19 fa fd ["_law_script"] (sp_p_law K) := by
  have e := hfa.symm.trans (PySem.W.mg_of X G a32)
  cases e
  have F0 := fun_mk (st := s_p_greatest_divisor) l0 c0 k0
  have b0 := F0.binds (ps := ["one", "other"]) fun _ _ _ _ _ _ us hl => match us, hl with | [_, _], _ => rfl
  have F1 : FunD K "fraction" "fraction" (defArgs s_p_fraction) (defBody s_p_fraction) (defScope s_p_fraction) [(.int 1)] [] f1 (PySem.W.fnOf "fraction" "fraction" (defArgs s_p_fraction) (defBody s_p_fraction) (defScope s_p_fraction) (.ref dT1) kV1 dc1 pm1 an1 cd1 ct1) := ⟨⟨_, _, _, _, _, _, _, _, _, _, rfl, l1, c1, .inr ⟨(fun z => by cases z), _, _, [.int 1 dt1_0], _, rfl, d1, rfl, (.cons ⟨_, rfl⟩ .nil)⟩, .inl rfl⟩, k1⟩
  have b1_2 := F1.binds1 (ps := ["num", "den"]) 2 1 (fun z => nomatch z) rfl fun _ _ _ _ _ _ _ us its h1 h2 => match us, its, h1, h2 with | [_, _], [_], _, _ => ⟨_, rfl, rfl⟩
  have F2 := fun_mk (st := s_p_add) l2 c2 k2
  have b2 := F2.binds (ps := ["one", "other"]) fun _ _ _ _ _ _ us hl => match us, hl with | [_, _], _ => rfl
  have F3 := fun_mk (st := s_p_multiply) l3 c3 k3
  have b3 := F3.binds (ps := ["one", "other"]) fun _ _ _ _ _ _ us hl => match us, hl with | [_, _], _ => rfl
  have F4 := fun_mk (st := s_p_is_less) l4 c4 k4
  have b4 := F4.binds (ps := ["one", "other"]) fun _ _ _ _ _ _ us hl => match us, hl with | [_, _], _ => rfl
  have F5 : FunD K "total" "total" (defArgs s_p_total) (defBody s_p_total) (defScope s_p_total) [] [("start", (.ref o_ZERO))] f5 (PySem.W.fnOf "total" "total" (defArgs s_p_total) (defBody s_p_total) (defScope s_p_total) .none (.ref kD5) dc5 pm5 an5 cd5 ct5) := ⟨⟨_, _, _, _, _, _, _, _, _, _, rfl, l5, c5, .inl ⟨rfl, rfl⟩, .inr ⟨_, rfl, fun p hp => by
    first | (cases List.mem_singleton.mp hp; exact ⟨_, kd5_0, rfl⟩)⟩⟩, k5⟩
  have b5_1 := F5.binds0 (ps := ["row", "start"]) 1 (fun z => nomatch z) rfl fun _ _ _ _ _ _ us ks h1 h2 => match us, ks, h1, h2 with | [_], [_], _, _ => ⟨_, _, _, _, _, _, rfl, rfl, rfl⟩
  have F6 := fun_mk (st := s_p_index_of_max) l6 c6 k6
  have b6 := F6.binds (ps := ["row"]) fun _ _ _ _ _ _ us hl => match us, hl with | [_], _ => rfl
  have F7 := fun_mk (st := s_p_index_of_min) l7 c7 k7
  have b7 := F7.binds (ps := ["row"]) fun _ _ _ _ _ _ us hl => match us, hl with | [_], _ => rfl
  have F8 := fun_mk (st := s_p_subterms) l8 c8 k8
  have b8 := F8.binds (ps := ["term"]) fun _ _ _ _ _ _ us hl => match us, hl with | [_], _ => rfl
  have F9 := fun_mk (st := s_p_event_names) l9 c9 k9
  have b9 := F9.binds (ps := ["term"]) fun _ _ _ _ _ _ us hl => match us, hl with | [_], _ => rfl
  have F10 := fun_mk (st := s_p_median_of) l10 c10 k10
  have b10 := F10.binds (ps := ["values"]) fun _ _ _ _ _ _ us hl => match us, hl with | [_], _ => rfl
  have F11 := fun_mk (st := s_p_value_of) l11 c11 k11
  have b11 := F11.binds (ps := ["term", "table"]) fun _ _ _ _ _ _ us hl => match us, hl with | [_, _], _ => rfl
  have F12 := fun_mk (st := s_p_check_names) l12 c12 k12
  have b12 := F12.binds (ps := ["term", "known"]) fun _ _ _ _ _ _ us hl => match us, hl with | [_, _], _ => rfl
  have F13 := fun_mk (st := s_p_evaluate) l13 c13 k13
  have b13 := F13.binds (ps := ["term", "table"]) fun _ _ _ _ _ _ us hl => match us, hl with | [_, _], _ => rfl
  have F14 := fun_mk (st := s_l_source) l14 c14 k14
  have b14 := F14.binds (ps := ["_law_script"]) fun _ _ _ _ _ _ us hl => match us, hl with | [_], _ => rfl
  have F15 := fun_mk (st := s_l_draw) l15 c15 k15
  have b15 := F15.binds (ps := ["_law_rng", "_law_quantity"]) fun _ _ _ _ _ _ us hl => match us, hl with | [_, _], _ => rfl
  have F16 := fun_mk (st := s_l_choice) l16 c16 k16
  have b16 := F16.binds (ps := ["_law_rng", "_law_some"]) fun _ _ _ _ _ _ us hl => match us, hl with | [_, _], _ => rfl
  have F17 := fun_mk (st := s_l_reduce) l17 c17 k17
  have b17 := F17.binds (ps := ["_law_num", "_law_den"]) fun _ _ _ _ _ _ us hl => match us, hl with | [_, _], _ => rfl
  have F18 := fun_mk (st := s_l_add) l18 c18 k18
  have b18 := F18.binds (ps := ["_law_one", "_law_other"]) fun _ _ _ _ _ _ us hl => match us, hl with | [_, _], _ => rfl
  have F19 := fun_mk (st := s_l_subtract) l19 c19 k19
  have b19 := F19.binds (ps := ["_law_one", "_law_other"]) fun _ _ _ _ _ _ us hl => match us, hl with | [_, _], _ => rfl
  have F20 := fun_mk (st := s_l_is_less) l20 c20 k20
  have b20 := F20.binds (ps := ["_law_one", "_law_other"]) fun _ _ _ _ _ _ us hl => match us, hl with | [_, _], _ => rfl
  have F21 := fun_mk (st := s_l_maximum) l21 c21 k21
  have b21 := F21.binds (ps := ["_law_some"]) fun _ _ _ _ _ _ us hl => match us, hl with | [_], _ => rfl
  have F22 := fun_mk (st := s_l_abs) l22 c22 k22
  have b22 := F22.binds (ps := ["_law_one"]) fun _ _ _ _ _ _ us hl => match us, hl with | [_], _ => rfl
  have F23 := fun_mk (st := s_l_small) l23 c23 k23
  have b23 := F23.binds (ps := ["_law_rng"]) fun _ _ _ _ _ _ us hl => match us, hl with | [_], _ => rfl
  have F24 := fun_mk (st := s_l_wide) l24 c24 k24
  have b24 := F24.binds (ps := ["_law_rng"]) fun _ _ _ _ _ _ us hl => match us, hl with | [_], _ => rfl
  have F25 := fun_mk (st := s_l_letters) l25 c25 k25
  have b25 := F25.binds (ps := []) fun _ _ _ _ _ _ us hl => match us, hl with | [], _ => rfl
  have F26 := fun_mk (st := s_l_is_name) l26 c26 k26
  have b26 := F26.binds (ps := ["_law_text"]) fun _ _ _ _ _ _ us hl => match us, hl with | [_], _ => rfl
  have F27 := fun_mk (st := s_l_plain) l27 c27 k27
  have b27 := F27.binds (ps := ["_law_names_here"]) fun _ _ _ _ _ _ us hl => match us, hl with | [_], _ => rfl
  have F28 := fun_mk (st := s_l_names) l28 c28 k28
  have b28 := F28.binds (ps := ["_law_rng", "_law_quantity"]) fun _ _ _ _ _ _ us hl => match us, hl with | [_, _], _ => rfl
  have F29 := fun_mk (st := s_l_shares) l29 c29 k29
  have b29 := F29.binds (ps := ["_law_rng", "_law_quantity"]) fun _ _ _ _ _ _ us hl => match us, hl with | [_, _], _ => rfl
  have F30 := fun_mk (st := s_l_term) l30 c30 k30
  have b30 := F30.binds (ps := ["_law_rng", "_law_names_here", "_law_deep"]) fun _ _ _ _ _ _ us hl => match us, hl with | [_, _, _], _ => rfl
  have F31 := fun_mk (st := s_l_distance) l31 c31 k31
  have b31 := F31.binds (ps := ["_law_one", "_law_other"]) fun _ _ _ _ _ _ us hl => match us, hl with | [_, _], _ => rfl
  have F32 := fun_mk (st := s_p_law) l32 c32 k32
  have b32 := F32.binds (ps := ["_law_script"]) fun _ _ _ _ _ _ us hl => match us, hl with | [_], _ => rfl
  let A : Ad := { f_p_greatest_divisor := f0, fd_p_greatest_divisor := PySem.W.fnOf "greatest_divisor" "greatest_divisor" (defArgs s_p_greatest_divisor) (defBody s_p_greatest_divisor) (defScope s_p_greatest_divisor) .none kV0 dc0 pm0 an0 cd0 ct0, f_p_fraction := f1, fd_p_fraction := PySem.W.fnOf "fraction" "fraction" (defArgs s_p_fraction) (defBody s_p_fraction) (defScope s_p_fraction) (.ref dT1) kV1 dc1 pm1 an1 cd1 ct1, f_p_add := f2, fd_p_add := PySem.W.fnOf "add" "add" (defArgs s_p_add) (defBody s_p_add) (defScope s_p_add) .none kV2 dc2 pm2 an2 cd2 ct2, f_p_multiply := f3, fd_p_multiply := PySem.W.fnOf "multiply" "multiply" (defArgs s_p_multiply) (defBody s_p_multiply) (defScope s_p_multiply) .none kV3 dc3 pm3 an3 cd3 ct3, f_p_is_less := f4, fd_p_is_less := PySem.W.fnOf "is_less" "is_less" (defArgs s_p_is_less) (defBody s_p_is_less) (defScope s_p_is_less) .none kV4 dc4 pm4 an4 cd4 ct4, f_p_total := f5, fd_p_total := PySem.W.fnOf "total" "total" (defArgs s_p_total) (defBody s_p_total) (defScope s_p_total) .none (.ref kD5) dc5 pm5 an5 cd5 ct5, f_p_index_of_max := f6, fd_p_index_of_max := PySem.W.fnOf "index_of_max" "index_of_max" (defArgs s_p_index_of_max) (defBody s_p_index_of_max) (defScope s_p_index_of_max) .none kV6 dc6 pm6 an6 cd6 ct6, f_p_index_of_min := f7, fd_p_index_of_min := PySem.W.fnOf "index_of_min" "index_of_min" (defArgs s_p_index_of_min) (defBody s_p_index_of_min) (defScope s_p_index_of_min) .none kV7 dc7 pm7 an7 cd7 ct7, f_p_subterms := f8, fd_p_subterms := PySem.W.fnOf "subterms" "subterms" (defArgs s_p_subterms) (defBody s_p_subterms) (defScope s_p_subterms) .none kV8 dc8 pm8 an8 cd8 ct8, f_p_event_names := f9, fd_p_event_names := PySem.W.fnOf "event_names" "event_names" (defArgs s_p_event_names) (defBody s_p_event_names) (defScope s_p_event_names) .none kV9 dc9 pm9 an9 cd9 ct9, f_p_median_of := f10, fd_p_median_of := PySem.W.fnOf "median_of" "median_of" (defArgs s_p_median_of) (defBody s_p_median_of) (defScope s_p_median_of) .none kV10 dc10 pm10 an10 cd10 ct10, f_p_value_of := f11, fd_p_value_of := PySem.W.fnOf "value_of" "value_of" (defArgs s_p_value_of) (defBody s_p_value_of) (defScope s_p_value_of) .none kV11 dc11 pm11 an11 cd11 ct11, f_p_check_names := f12, fd_p_check_names := PySem.W.fnOf "check_names" "check_names" (defArgs s_p_check_names) (defBody s_p_check_names) (defScope s_p_check_names) .none kV12 dc12 pm12 an12 cd12 ct12, f_p_evaluate := f13, fd_p_evaluate := PySem.W.fnOf "evaluate" "evaluate" (defArgs s_p_evaluate) (defBody s_p_evaluate) (defScope s_p_evaluate) .none kV13 dc13 pm13 an13 cd13 ct13, f_l_source := f14, fd_l_source := PySem.W.fnOf "_law_source" "_law_source" (defArgs s_l_source) (defBody s_l_source) (defScope s_l_source) .none kV14 dc14 pm14 an14 cd14 ct14, f_l_draw := f15, fd_l_draw := PySem.W.fnOf "_law_draw" "_law_draw" (defArgs s_l_draw) (defBody s_l_draw) (defScope s_l_draw) .none kV15 dc15 pm15 an15 cd15 ct15, f_l_choice := f16, fd_l_choice := PySem.W.fnOf "_law_choice" "_law_choice" (defArgs s_l_choice) (defBody s_l_choice) (defScope s_l_choice) .none kV16 dc16 pm16 an16 cd16 ct16, f_l_reduce := f17, fd_l_reduce := PySem.W.fnOf "_law_reduce" "_law_reduce" (defArgs s_l_reduce) (defBody s_l_reduce) (defScope s_l_reduce) .none kV17 dc17 pm17 an17 cd17 ct17, f_l_add := f18, fd_l_add := PySem.W.fnOf "_law_add" "_law_add" (defArgs s_l_add) (defBody s_l_add) (defScope s_l_add) .none kV18 dc18 pm18 an18 cd18 ct18, f_l_subtract := f19, fd_l_subtract := PySem.W.fnOf "_law_subtract" "_law_subtract" (defArgs s_l_subtract) (defBody s_l_subtract) (defScope s_l_subtract) .none kV19 dc19 pm19 an19 cd19 ct19, f_l_is_less := f20, fd_l_is_less := PySem.W.fnOf "_law_is_less" "_law_is_less" (defArgs s_l_is_less) (defBody s_l_is_less) (defScope s_l_is_less) .none kV20 dc20 pm20 an20 cd20 ct20, f_l_maximum := f21, fd_l_maximum := PySem.W.fnOf "_law_maximum" "_law_maximum" (defArgs s_l_maximum) (defBody s_l_maximum) (defScope s_l_maximum) .none kV21 dc21 pm21 an21 cd21 ct21, f_l_abs := f22, fd_l_abs := PySem.W.fnOf "_law_abs" "_law_abs" (defArgs s_l_abs) (defBody s_l_abs) (defScope s_l_abs) .none kV22 dc22 pm22 an22 cd22 ct22, f_l_small := f23, fd_l_small := PySem.W.fnOf "_law_small" "_law_small" (defArgs s_l_small) (defBody s_l_small) (defScope s_l_small) .none kV23 dc23 pm23 an23 cd23 ct23, f_l_wide := f24, fd_l_wide := PySem.W.fnOf "_law_wide" "_law_wide" (defArgs s_l_wide) (defBody s_l_wide) (defScope s_l_wide) .none kV24 dc24 pm24 an24 cd24 ct24, f_l_letters := f25, fd_l_letters := PySem.W.fnOf "_law_letters" "_law_letters" (defArgs s_l_letters) (defBody s_l_letters) (defScope s_l_letters) .none kV25 dc25 pm25 an25 cd25 ct25, f_l_is_name := f26, fd_l_is_name := PySem.W.fnOf "_law_is_name" "_law_is_name" (defArgs s_l_is_name) (defBody s_l_is_name) (defScope s_l_is_name) .none kV26 dc26 pm26 an26 cd26 ct26, f_l_plain := f27, fd_l_plain := PySem.W.fnOf "_law_plain" "_law_plain" (defArgs s_l_plain) (defBody s_l_plain) (defScope s_l_plain) .none kV27 dc27 pm27 an27 cd27 ct27, f_l_names := f28, fd_l_names := PySem.W.fnOf "_law_names" "_law_names" (defArgs s_l_names) (defBody s_l_names) (defScope s_l_names) .none kV28 dc28 pm28 an28 cd28 ct28, f_l_shares := f29, fd_l_shares := PySem.W.fnOf "_law_shares" "_law_shares" (defArgs s_l_shares) (defBody s_l_shares) (defScope s_l_shares) .none kV29 dc29 pm29 an29 cd29 ct29, f_l_term := f30, fd_l_term := PySem.W.fnOf "_law_term" "_law_term" (defArgs s_l_term) (defBody s_l_term) (defScope s_l_term) .none kV30 dc30 pm30 an30 cd30 ct30, f_l_distance := f31, fd_l_distance := PySem.W.fnOf "_law_distance" "_law_distance" (defArgs s_l_distance) (defBody s_l_distance) (defScope s_l_distance) .none kV31 dc31 pm31 an31 cd31 ct31, f_p_law := fa, fd_p_law := PySem.W.fnOf "law" "law" (defArgs s_p_law) (defBody s_p_law) (defScope s_p_law) .none kV32 dc32 pm32 an32 cd32 ct32, o_ZERO := o_ZERO }
  have T : Txt K mg A := { F_p_greatest_divisor := F0, g_p_greatest_divisor := PySem.W.mg_of X G a0, b_p_greatest_divisor := b0, F_p_fraction := F1, g_p_fraction := PySem.W.mg_of X G a1, b_p_fraction_2 := b1_2, F_p_add := F2, g_p_add := PySem.W.mg_of X G a2, b_p_add := b2, F_p_multiply := F3, g_p_multiply := PySem.W.mg_of X G a3, b_p_multiply := b3, F_p_is_less := F4, g_p_is_less := PySem.W.mg_of X G a4, b_p_is_less := b4, F_p_total := F5, g_p_total := PySem.W.mg_of X G a5, b_p_total_1 := b5_1, F_p_index_of_max := F6, g_p_index_of_max := PySem.W.mg_of X G a6, b_p_index_of_max := b6, F_p_index_of_min := F7, g_p_index_of_min := PySem.W.mg_of X G a7, b_p_index_of_min := b7, F_p_subterms := F8, g_p_subterms := PySem.W.mg_of X G a8, b_p_subterms := b8, F_p_event_names := F9, g_p_event_names := PySem.W.mg_of X G a9, b_p_event_names := b9, F_p_median_of := F10, g_p_median_of := PySem.W.mg_of X G a10, b_p_median_of := b10, F_p_value_of := F11, g_p_value_of := PySem.W.mg_of X G a11, b_p_value_of := b11, F_p_check_names := F12, g_p_check_names := PySem.W.mg_of X G a12, b_p_check_names := b12, F_p_evaluate := F13, g_p_evaluate := PySem.W.mg_of X G a13, b_p_evaluate := b13, F_l_source := F14, g_l_source := PySem.W.mg_of X G a14, b_l_source := b14, F_l_draw := F15, g_l_draw := PySem.W.mg_of X G a15, b_l_draw := b15, F_l_choice := F16, g_l_choice := PySem.W.mg_of X G a16, b_l_choice := b16, F_l_reduce := F17, g_l_reduce := PySem.W.mg_of X G a17, b_l_reduce := b17, F_l_add := F18, g_l_add := PySem.W.mg_of X G a18, b_l_add := b18, F_l_subtract := F19, g_l_subtract := PySem.W.mg_of X G a19, b_l_subtract := b19, F_l_is_less := F20, g_l_is_less := PySem.W.mg_of X G a20, b_l_is_less := b20, F_l_maximum := F21, g_l_maximum := PySem.W.mg_of X G a21, b_l_maximum := b21, F_l_abs := F22, g_l_abs := PySem.W.mg_of X G a22, b_l_abs := b22, F_l_small := F23, g_l_small := PySem.W.mg_of X G a23, b_l_small := b23, F_l_wide := F24, g_l_wide := PySem.W.mg_of X G a24, b_l_wide := b24, F_l_letters := F25, g_l_letters := PySem.W.mg_of X G a25, b_l_letters := b25, F_l_is_name := F26, g_l_is_name := PySem.W.mg_of X G a26, b_l_is_name := b26, F_l_plain := F27, g_l_plain := PySem.W.mg_of X G a27, b_l_plain := b27, F_l_names := F28, g_l_names := PySem.W.mg_of X G a28, b_l_names := b28, F_l_shares := F29, g_l_shares := PySem.W.mg_of X G a29, b_l_shares := b29, F_l_term := F30, g_l_term := PySem.W.mg_of X G a30, b_l_term := b30, F_l_distance := F31, g_l_distance := PySem.W.mg_of X G a31, b_l_distance := b31, F_p_law := F32, g_p_law := PySem.W.mg_of X G a32, b_p_law := b32, n_abs := PySem.W.mg_none_of X G z0, n_enumerate := PySem.W.mg_none_of X G z1, n_list := PySem.W.mg_none_of X G z2, n_zip := PySem.W.mg_none_of X G z3, n_len := PySem.W.mg_none_of X G z4, n_all := PySem.W.mg_none_of X G z5, n_set := PySem.W.mg_none_of X G z6, n_range := PySem.W.mg_none_of X G z7, n_max := PySem.W.mg_none_of X G z8, n_sum := PySem.W.mg_none_of X G z9, n_tuple := PySem.W.mg_none_of X G z10, n_dict := PySem.W.mg_none_of X G z11, c_ZERO := PySem.W.mg_of X G q_ZERO, t_ZERO := fun H => .inr ⟨_, _, _, m_ZERO, rfl, rfl, (by show 2 ≤ sizeLine; decide), (.cons ⟨_, rfl⟩ (.cons ⟨_, rfl⟩ .nil))⟩ }
  exact ⟨PySem.W.fnOf "law" "law" (defArgs s_p_law) (defBody s_p_law) (defScope s_p_law) .none kV32 dc32 pm32 an32 cd32 ct32, fun s v => .of_eq rfl, fun base _ _ => ok_p_law (a := A) T⟩
end Gait
open PySem PySem.W PyProof.Rows
set_option maxRecDepth 100000 in
set_option maxHeartbeats 0 in
theorem PySem.Challenge.cw_gaithold_k10_whole_terms_are_monotone_an_holds : PySem.Challenge.rw_gaithold_k10_whole_terms_are_monotone_an.Holds := by
  w_on; o_law; k_head; (case hw => w_witness2)
  k_fill
  refine L2.walk_of (l := PySem.Challenge.rw_gaithold_k10_whole_terms_are_monotone_an) (n := 63) (k := 19) (x := "_law_script") (CX := fun _ => L2.CX0) (sp := fun w => Gait.sp_p_law _) rfl (by decide) rfl ⟨rfl, by decide, by decide⟩ (fun w h Y => PySem.W.kIn_of Y) ?F (fun _ _ a ns hl _ hS => ⟨a, ns, rfl, hS, hl, fun _ => rfl⟩) (fun _ _ _ _ _ h => h)
  case F =>
    intro w mg fa h KX G hmg
    refine' Gait.all_mk KX G hmg ?a0 ?l0 ?c0 ?k0 ?a1 ?l1 ?c1 ?k1 ?d1 ?a2 ?l2 ?c2 ?k2 ?a3 ?l3 ?c3 ?k3 ?a4 ?l4 ?c4 ?k4 ?a5 ?l5 ?c5 ?k5 ?kd5_0 ?a6 ?l6 ?c6 ?k6 ?a7 ?l7 ?c7 ?k7 ?a8 ?l8 ?c8 ?k8 ?a9 ?l9 ?c9 ?k9 ?a10 ?l10 ?c10 ?k10 ?a11 ?l11 ?c11 ?k11 ?a12 ?l12 ?c12 ?k12 ?a13 ?l13 ?c13 ?k13 ?a14 ?l14 ?c14 ?k14 ?a15 ?l15 ?c15 ?k15 ?a16 ?l16 ?c16 ?k16 ?a17 ?l17 ?c17 ?k17 ?a18 ?l18 ?c18 ?k18 ?a19 ?l19 ?c19 ?k19 ?a20 ?l20 ?c20 ?k20 ?a21 ?l21 ?c21 ?k21 ?a22 ?l22 ?c22 ?k22 ?a23 ?l23 ?c23 ?k23 ?a24 ?l24 ?c24 ?k24 ?a25 ?l25 ?c25 ?k25 ?a26 ?l26 ?c26 ?k26 ?a27 ?l27 ?c27 ?k27 ?a28 ?l28 ?c28 ?k28 ?a29 ?l29 ?c29 ?k29 ?a30 ?l30 ?c30 ?k30 ?a31 ?l31 ?c31 ?k31 ?a32 ?l32 ?c32 ?k32 ?z0 ?z1 ?z2 ?z3 ?z4 ?z5 ?z6 ?z7 ?z8 ?z9 ?z10 ?z11 ?q_ZERO ?m_ZERO
    (case a0 => k_is); (case l0 => k_is); (case c0 => k_is); (case k0 => k_is); (case a1 => k_is); (case l1 => k_is); (case c1 => k_is); (case k1 => k_is); (case d1 => k_is); (case a2 => k_is); (case l2 => k_is); (case c2 => k_is); (case k2 => k_is); (case a3 => k_is); (case l3 => k_is); (case c3 => k_is); (case k3 => k_is); (case a4 => k_is); (case l4 => k_is); (case c4 => k_is); (case k4 => k_is); (case a5 => k_is); (case l5 => k_is); (case c5 => k_is); (case k5 => k_is); (case kd5_0 => k_is); (case a6 => k_is); (case l6 => k_is); (case c6 => k_is); (case k6 => k_is); (case a7 => k_is); (case l7 => k_is); (case c7 => k_is); (case k7 => k_is); (case a8 => k_is); (case l8 => k_is); (case c8 => k_is); (case k8 => k_is); (case a9 => k_is); (case l9 => k_is); (case c9 => k_is); (case k9 => k_is); (case a10 => k_is); (case l10 => k_is); (case c10 => k_is); (case k10 => k_is); (case a11 => k_is); (case l11 => k_is); (case c11 => k_is); (case k11 => k_is); (case a12 => k_is); (case l12 => k_is); (case c12 => k_is); (case k12 => k_is); (case a13 => k_is); (case l13 => k_is); (case c13 => k_is); (case k13 => k_is); (case a14 => k_is); (case l14 => k_is); (case c14 => k_is); (case k14 => k_is); (case a15 => k_is); (case l15 => k_is); (case c15 => k_is); (case k15 => k_is); (case a16 => k_is); (case l16 => k_is); (case c16 => k_is); (case k16 => k_is); (case a17 => k_is); (case l17 => k_is); (case c17 => k_is); (case k17 => k_is); (case a18 => k_is); (case l18 => k_is); (case c18 => k_is); (case k18 => k_is); (case a19 => k_is); (case l19 => k_is); (case c19 => k_is); (case k19 => k_is); (case a20 => k_is); (case l20 => k_is); (case c20 => k_is); (case k20 => k_is); (case a21 => k_is); (case l21 => k_is); (case c21 => k_is); (case k21 => k_is); (case a22 => k_is); (case l22 => k_is); (case c22 => k_is); (case k22 => k_is); (case a23 => k_is); (case l23 => k_is); (case c23 => k_is); (case k23 => k_is); (case a24 => k_is); (case l24 => k_is); (case c24 => k_is); (case k24 => k_is); (case a25 => k_is); (case l25 => k_is); (case c25 => k_is); (case k25 => k_is); (case a26 => k_is); (case l26 => k_is); (case c26 => k_is); (case k26 => k_is); (case a27 => k_is); (case l27 => k_is); (case c27 => k_is); (case k27 => k_is); (case a28 => k_is); (case l28 => k_is); (case c28 => k_is); (case k28 => k_is); (case a29 => k_is); (case l29 => k_is); (case c29 => k_is); (case k29 => k_is); (case a30 => k_is); (case l30 => k_is); (case c30 => k_is); (case k30 => k_is); (case a31 => k_is); (case l31 => k_is); (case c31 => k_is); (case k31 => k_is); (case a32 => k_is); (case l32 => k_is); (case c32 => k_is); (case k32 => k_is); (case z0 => k_is); (case z1 => k_is); (case z2 => k_is); (case z3 => k_is); (case z4 => k_is); (case z5 => k_is); (case z6 => k_is); (case z7 => k_is); (case z8 => k_is); (case z9 => k_is); (case z10 => k_is); (case z11 => k_is); (case q_ZERO => k_is); (case m_ZERO => k_is)
