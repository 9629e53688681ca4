import PyProof.Rows.All
import Wide.All
import OpenK.AllK
import Wide.FinOn
import PySem.Challenge.RW_gaithold_k08_term_structure
import HandS.ForMost
import HandS.Wide
import HandS.IsInst
import HandS.Zip
import HandS.Codes
import HandS.Defaults
import HandS.Deep
import HandS.Style
import KE.GoesMore
import HandS.Strs
import HandS.SortKw
set_option Elab.async false
set_option linter.all false
set_option maxRecDepth 100000
set_option maxHeartbeats 4000000
namespace EnT
open PySem PySem.Spec PyProof.Rows L2
/-- a fresh enumerate over the iterator at j -/
abbrev enO (j : Addr) : Obj := { cls := .type "enumerate", data := .fields #[.none, .bool false, .ref j, rawInt 0, .none, .none] }
theorem en_new {v : Value} {oi : Obj} {Hh : Heap → Prop} (B : Begins v oi Hh) :
    Meets (Builtin.«enumerate.__new__» ⟨[.type "enumerate", v], []⟩) (fun _ R s => Hh s.heap ∧ R (.ok (.ret (.ref (s.heap.push oi).objs.size))) { s with heap := (s.heap.push oi).push (enO s.heap.objs.size) }) :=
  .of_wp fun prog w A R s hyp => by
    obtain ⟨mem, gg, dd, tt, sys⟩ := s
    obtain ⟨okv, fin⟩ := hyp
    have hsub := sub_enumerate
    have step : ∀ {A2 : Around} {E2 : Value → Shared → Prop} {Q2 : Value → Shared → Prop}, Q2 (.ref mem.objs.size) ⟨mem.push oi, gg, dd, tt, sys⟩ → wpAny (model prog w) A2 (pyIter v) Q2 E2 ⟨mem, gg, dd, tt, sys⟩ :=
      fun z => B.iter prog w _ _ ⟨mem, gg, dd, tt, sys⟩ _ okv z
    wp_walk using step
    refine wpAny_stack_any fun _ => wpAny_pure ?_
    split
    · rename_i cc _ _ _ _ _
      cases (cc == Value.type "enumerate") <;> (wp_walk using step; exact ⟨_, rfl, fin⟩)
    · (wp_walk using step); exact ⟨_, rfl, fin⟩
theorem en_call {prog : Program} {w : World} {A : Around} {E : Value → Shared → Prop} {s : Shared} {v : Value} {oi : Obj} {Hh : Heap → Prop} {Q : Value → Shared → Prop} (B : Begins v oi Hh) (okv : Hh s.heap)
    (fin : ∀ h2, IsEnum h2 (s.heap.objs.size + 1) s.heap.objs.size 0 .none → h2.get? s.heap.objs.size = some oi → (∀ b o, s.heap.get? b = some o → h2.get? b = some o) → Q (.ref (s.heap.objs.size + 1)) { s with heap := h2 }) :
    wpAny (model prog w) A (call (.type "enumerate") [v]) Q E s := by
  refine callType_new F.called_enumerate (by decide) (F.typeCall_enumerate_1 v) (F.newCall_enumerate_1 v) (fun ob => F.args_object_init_2 ob v) F.entry_enumerate_new (en_new B) ⟨okv, ?_⟩
  have sz1 : (s.heap.push oi).objs.size = s.heap.objs.size + 1 := Heap.size_push ..
  have isE : IsEnum ((s.heap.push oi).push (enO s.heap.objs.size)) (s.heap.objs.size + 1) s.heap.objs.size 0 .none := by
    have g := Heap.get?_push_size (s.heap.push oi) (o := enO s.heap.objs.size) rfl
    rw [sz1] at g
    exact g
  show _ ∧ _
  rw [sz1]
  exact ⟨⟨_, isE, rfl⟩, fin _ isE (Heap.get?_push_of_some _ (Heap.get?_push_size _ B.free)) fun b o z => Heap.get?_push_of_some _ (Heap.get?_push_of_some _ z)⟩
/-- the tuple at t, each item in a new pair -/
def Iet (K : PySem.W.Frag) (t : Addr) : It :=
  ⟨fun i H => ∃ (xs : List V) (x : V), SqT K H t xs ∧ xs[i]? = some x, fun i H v H' => ∃ pr x, v = .ref pr ∧ H pr = none ∧ H' = upd H pr (.tup [.int (i : Nat), x]) ∧ ∀ xs, SqT K H t xs → xs[i]? = some x, fun i H => ∃ xs : List V, SqT K H t xs ∧ xs.length ≤ i⟩
theorem ne_it {h : Heap} {t it : Addr} {i : Nat} {its : Array Value} (a : h.IsTuple t its) (b : h.IsTupleIter it t i) : t ≠ it := fun z => by
  obtain ⟨o1, e1, c1, _⟩ := a
  obtain ⟨o2, e2, c2, _⟩ := b
  rw [z, e2] at e1
  cases e1
  rw [c1] at c2
  exact absurd (Value.type.inj c2) (by decide)
theorem turn_enT {P : Program} {w : World} {K : PySem.W.Frag} {elts : List Expr} {kk : Nat} {tpos : Pos} (t e it : Addr) :
    Turn P w K (.Tuple elts kk tpos) (Iet K t) [e, it] e (fun i h => (∃ old, IsEnum h e it ((i : Nat) : Int) old) ∧ h.IsTupleIter it t i ∧ e ≠ it ∧ e ≠ t) where
  mem := List.mem_cons_self
  obj := fun i h tn b hb => by
    obtain ⟨⟨_, he⟩, ⟨o, ho, _, hd⟩, _⟩ := tn
    rcases List.mem_cons.mp hb with z | z
    · rw [z]; exact ⟨_, he, fun v y => nomatch y⟩
    · rw [List.mem_singleton.mp z]; exact ⟨o, ho, fun v y => by rw [hd] at y; cases y⟩
  keep := fun i h h' tn kp => by
    obtain ⟨⟨old, he⟩, hi, n1, n2⟩ := tn
    exact ⟨⟨old, kp e (by simp) _ he⟩, hi.at fun o z => kp it (by simp) o z, n1, n2⟩
  item := by
    intro X hP hw hK hc i pins s σ H E I hf tn hg
    subst hP hw hK
    obtain ⟨⟨old, he⟩, hit, n1, n2⟩ := tn
    obtain ⟨xs, x, hq, hx⟩ := hg
    obtain ⟨its, rv, tp, _⟩ := I.tuple hq
    obtain ⟨u, hu, ru⟩ := rv.get hx
    have tp' : s.heap.IsTuple t its.toArray := tp
    have le : e < s.heap.objs.size := Heap.lt_size he
    have li : it < s.heap.objs.size := by obtain ⟨_, y, _⟩ := hit; exact Heap.lt_size y
    have hi : i < its.toArray.size := by
      have := (List.getElem?_eq_some_iff.mp hu).1
      simpa using this
    have hd : X.A.in1.handled = none := I.ok.hd hc
    refine wpAny_pyNext_enum_itemD (Draws.tuple hd it t (ne_it tp' hit) its.toArray) he ⟨hit, tp'⟩ hi n1 (fun z => ?_) fun y h2 tk hy ho hst hT hsz kp => ?_
    · rcases List.mem_cons.mp z with z | z
      · exact n1 z
      · exact n2 (List.mem_singleton.mp z)
    have ey : y = u := by
      have : its.toArray[i]? = some y := hy
      rw [List.getElem?_toArray, hu] at this
      exact (Option.some.inj this).symm
    subst ey
    refine ⟨_, rfl, wpAny_letOwnedTupleGo_enum (s := { s with heap := h2, toks := tk + 1 }) ho fun h3 he3 sb => ?_⟩
    have hT3 : h3.get? s.heap.objs.size = some { cls := .type "tuple", data := .seq #[.int i tk, y] } := (sb.2 _ (Nat.ne_of_gt le)).trans hT
    have made : ObjOk X.prog X.w (upd H s.heap.objs.size (.tup [.int (i : Nat), x])) h3 s.heap.objs.size (.tup [.int (i : Nat), x]) := ⟨by show 2 ≤ sizeLine; decide, [.int i tk, y], .cons ⟨_, rfl⟩ (.cons ru .nil), ⟨_, hT3, rfl, _, rfl⟩⟩
    have I3 : Inv X pins σ (upd H s.heap.objs.size (.tup [.int (i : Nat), x])) { s with heap := h3, toks := tk + 1 } :=
      I.turnedNew (ch := [e, it]) (fun b ob nb z => (sb.2 b (fun y => nb (by simp [y]))).trans (kp b ob (fun y => nb (by simp [y])) (fun y => nb (by simp [y])) z)) hf (Nat.le_refl _) made
    refine ⟨.ref s.heap.objs.size, _, I3, rfl, ⟨_, x, rfl, I.hok.fresh (Nat.le_refl _), rfl, fun ys hys => by rw [I.tuple_inj hys hq]; exact hx⟩, ⟨⟨y, ?_⟩, hst.1.at fun o z => (sb.2 it (Ne.symm n1)).trans z, n1, n2⟩, fun b hb => ?_⟩
    · rw [show ((i + 1 : Nat) : Int) = (i : Int) + 1 by omega]; exact he3
    · have lb : b < s.heap.objs.size := by
        rcases List.mem_cons.mp hb with z | z
        · rw [z]; exact le
        · rw [List.mem_singleton.mp z]; exact li
      rw [upd_ne (Nat.ne_of_lt lb)]
      exact (hf b hb).1
  done := by
    intro X hP hw hK hc i pins s σ H E I hf tn hg
    subst hP hw hK
    obtain ⟨⟨old, he⟩, hit, n1, n2⟩ := tn
    obtain ⟨xs, hq, hx⟩ := hg
    obtain ⟨its, rv, tp, _⟩ := I.tuple hq
    have tp' : s.heap.IsTuple t its.toArray := tp
    obtain ⟨f0, f1, f2, f3, f4, f5⟩ := hf it (by simp)
    have hl := rv.length
    have hd : X.A.in1.handled = none := I.ok.hd hc
    have dr := Draws.tuple (prog := X.prog) (w := X.w) hd it t (ne_it tp' hit) its.toArray
    have D2 : Draws X.prog X.w X.A.in1 it [it, t] i (fun _ _ => False) (fun j h => j = i ∧ h.IsTupleIter it t i ∧ h.IsTuple t its.toArray) :=
      { live := fun _ _ st => let ⟨o, ho, _⟩ := st.2.1; ⟨o, ho⟩
        frame := fun _ _ _ st hk => ⟨st.1, st.2.1.at fun o z => hk it (by simp) o z, st.2.2.at fun o z => hk t (by simp) o z⟩
        item := fun j s Q E hj st hQ => absurd st.1 (Nat.ne_of_lt hj)
        done := fun s Q E st hE => wpAny_nextOf_tuple_end hd st.2.1 st.2.2 (by simp; omega) hE }
    exact wpAny_pyNext_enum_endD D2 he ⟨rfl, hit, tp'⟩ fun h' eb => ⟨rfl, I.turned (t' := s.toks) (fun b o nb z => eb b o nb z) f0 f1 f3 f4 f5⟩
  self := fun A i s Q E tn z => let ⟨⟨_, he⟩, _⟩ := tn; wpAny_pyIter_enum he z
def iEnT (K : PySem.W.Frag) (ta : TA) : TI := fun σ H R => ta σ H fun vs H1 => ∃ t xs, vs = [.ref t] ∧ SqT K H1 t xs ∧ R (Iet K t) H1
theorem pi_enumT {X : Cx} {e : Expr} {ta : TA} {p pos tpos : Pos} {elts : List Expr} {kk : Nat} (hg : Gl X "enumerate") (hm : X.mg "enumerate" = none) (ha : PA X [e] ta) (hs : starEach [e] X.env = [(false, eval e X.env)] := by rfl) :
    PI X (.Tuple elts kk tpos) (.Call (.Name "enumerate" p) [e] [] pos) (iEnT X.K ta) := by
  refine ⟨fun pins s σ H R I h => ?_⟩
  refine Call_ (ld_blt I hg hm boot_enumerate (PyProof.Rows.callWith_type1 (thn (ha.run pos pins s σ H _ I h) fun us s1 ⟨vs, H1, I1, r1, q1⟩ => ?_) hs rfl))
  obtain ⟨t, xs, ev, hq, fin⟩ := q1
  subst ev
  cases r1 with
  | cons r rr =>
    cases rr
    cases r
    obtain ⟨its, rv, tp, _⟩ := I1.tuple hq
    have tp' : s1.heap.IsTuple t its.toArray := tp
    obtain ⟨ot, hot, _⟩ := id tp'
    refine en_call (begins_tuple t its.toArray) tp' fun h2 isE hit kp => wpAny_pyIter_enum isE ?_
    refine ⟨s1.heap.objs.size + 1, [s1.heap.objs.size + 1, s1.heap.objs.size], _, _, H1, rfl, I1.kept (t' := s1.toks) kp, turn_enT t (s1.heap.objs.size + 1) s1.heap.objs.size, ⟨⟨.none, isE⟩, ⟨_, hit, rfl, rfl⟩, Nat.succ_ne_self _, fun z => ?_⟩, fun b hb => ?_, fin⟩
    · have lt := Heap.lt_size hot
      rw [← z] at lt
      exact absurd lt (Nat.not_lt.mpr (Nat.le_succ _))
    · have lb : s1.heap.objs.size ≤ b := by
        rcases List.mem_cons.mp hb with z | z
        · rw [z]; exact Nat.le_add_right _ _
        · rw [List.mem_singleton.mp z]; exact Nat.le_refl _
      exact I1.fpOk lb (I1.hok.fresh lb)
theorem pi_or {X : Cx} {tg it : Expr} {w1 w2 : TI} (a : PI X tg it w1) (b : PI X tg it w2) : PI X tg it (fun σ H R => w1 σ H R ∨ w2 σ H R) := ⟨fun pins s σ H R I h => h.elim (a.run pins s σ H R I) (b.run pins s σ H R I)⟩
end EnT

namespace StT
open PySem PySem.Spec PyProof.Rows L2
/-- what is known of a set built of the first i texts -/
def Known (xs : List Str) (i : Nat) (S : Str → Bool) (m : Nat) : Prop := (∀ k, S k = (xs.take i).any (· == k)) ∧ m ≤ i ∧ (m = i → (xs.take i).Nodup)
theorem Known.more {xs : List Str} {i m : Nat} {S : Str → Bool} {x : Str} (h : Known xs i S m) (hx : xs[i]? = some x) : Known xs (i + 1) (fun k => S k || decide (k = x)) (if S x then m else m + 1) := by
  obtain ⟨h1, h2, h3⟩ := h
  have tk : xs.take (i + 1) = xs.take i ++ [x] := by rw [List.take_add_one, hx]; rfl
  refine ⟨fun k => ?_, ?_, fun e => ?_⟩
  · rw [tk, List.any_append, ← h1 k]
    congr 1
    by_cases q : k = x
    · subst q; simp
    · have : (x == k) = false := by simpa [beq_iff_eq] using fun z : x = k => q z.symm
      simp [q, this]
  · split <;> omega
  · cases q : S x with
    | true => rw [q] at e; simp at e; omega
    | false =>
      rw [q] at e
      have em : m = i := by simpa using e
      rw [tk, List.nodup_append]
      refine ⟨h3 em, by simp, fun u hu v hv => ?_⟩
      rw [List.mem_singleton.mp hv]
      intro z
      subst z
      have := h1 u
      rw [q] at this
      have hany : (xs.take i).any (· == u) = true := List.any_eq_true.mpr ⟨u, hu, by simp⟩
      rw [hany] at this
      cases this
section
variable {prog : Program} {w : World} {A : Around} {R : Result → Shared → Prop} {I : Addr} {fp wr : List Addr} {G : Array GenState → Array GenState → Prop} {n : Nat} {P : Nat → Value → Prop} {St : Nat → Shared → Prop}
theorem fill (W : WalksS prog w A.in1 I fp wr G n P St) (S : Addr) (nS : S ∉ fp) (xs : List Str) (hn : xs.length = n) (small : n ≤ 1000) (hv : ∀ i v, P i v → ∃ t, v = .str (xs.getD i Str.empty) t) :
    ∀ (k i : Nat) (s : Shared) (F : Str → Bool) (m : Nat), n - i = k → i ≤ n → St i s → s.heap.SetOf (PySem.strKind prog w) S F m → Known xs i F m →
      (∀ s' F' m', Moved (S :: wr) G s s' → s'.heap.SetOf (PySem.strKind prog w) S F' m' → Known xs n F' m' → R (.ok (.ret .none)) s') → codeAny (model prog w) A (.builtin "set.update.loop" ⟨[.ref S, .ref I], []⟩) R s := by
  have nW : S ∉ wr := fun z => nS (W.sub _ z)
  have up : ∀ b ∈ wr, b ∈ S :: wr := fun b z => List.mem_cons_of_mem _ z
  intro k
  induction k with
  | zero =>
    intro i s F m hk hi hst hS hK fin
    obtain rfl : i = n := by omega
    refine codeAny_builtin PyProof.Rows.F.entry_set_update_loop ?_
    rw [Around.under_plainId PyProof.Rows.F.plain_set_update_loop _]
    refine wpAny_bind (W.done s _ _ hst fun s1 mv => wpAny_pure (fin s1 F m (mv.mono up) ?_ hK))
    obtain ⟨o, es, ep, tb, ho, more⟩ := hS; exact ⟨o, es, ep, tb, mv.heap S _ nW ho, more⟩
  | succ k ih =>
    intro i s F m hk hi hst hS hK fin
    have lt : i < n := by omega
    refine codeAny_builtin PyProof.Rows.F.entry_set_update_loop ?_
    rw [Around.under_plainId PyProof.Rows.F.plain_set_update_loop _]
    refine wpAny_bind (W.item i s _ _ lt hst fun v s1 hP st1 mv => ?_)
    obtain ⟨tt, rfl⟩ := hv i v hP
    have S1 : s1.heap.SetOf (PySem.strKind prog w) S F m := by obtain ⟨o, es, ep, tb, ho, more⟩ := hS; exact ⟨o, es, ep, tb, mv.heap S _ nW ho, more⟩
    have mi := hK.2.1
    refine wpAny_bind (wpAny_holding ?_)
    unfold setAdd
    refine wpAny_holding (wpAny_bind ((PySem.strKind prog w).pyHash (k := xs.getD i Str.empty) (strKind_is _ _ _ _) ?_))
    refine wpAny_setAddHashed_of (knd := PySem.strKind prog w) (s := { s1 with toks := s1.toks + 1 }) (strKind_is _ _ _ _) rfl S1 (by unfold scanBound; omega) fun h2 sb S2 => ?_
    have hx : xs[i]? = some (xs.getD i Str.empty) := by
      have l : i < xs.length := by omega
      rw [List.getElem?_eq_getElem l, List.getD_eq_getElem?_getD, List.getElem?_eq_getElem l]; rfl
    have away : ∀ b ∈ fp, b ≠ S := fun b hb z => nS (by rw [← z]; exact hb)
    refine wpAny_pure ⟨plainId_quiet PyProof.Rows.F.plain_set_update_loop _, ih (i + 1) _ _ _ (by omega) lt (W.frame _ s1 _ _ st1 (Nat.le_succ _) fun b hb o z => (sb.2 b (away b hb)).trans z) S2 (hK.more hx) fun s3 F3 m3 mv3 S3 K3 => ?_⟩
    exact fin s3 F3 m3 (Moved.trans W.gtrans ((mv.mono up).then_heap (Nat.le_succ _) fun b o hb z => (sb.2 b (fun y : b = S => hb (by rw [y]; exact List.mem_cons_self))).trans z) mv3) S3 K3
end
section
variable {prog : Program} {w : World} {A : Around} {E : Value → Shared → Prop} {s : Shared}
abbrev set0 (led : Bool) : Obj := { cls := .type "set", dict := none, data := .set #[] 0 (.fresh 0 0 led) }
set_option maxHeartbeats 3200000 in
theorem set_texts {l : Addr} {items : Array Value} {xs : List Str} {Q : Value → Shared → Prop} (hh : A.handled = none) (hl : s.heap.IsList l items) (hi : PyProof.Rows.StrsAre items.toList xs) (small : xs.length ≤ 1000)
    (fin : ∀ (h2 : Heap) (tk : Nat) (F : Str → Bool) (m : Nat), h2.SetOf (PySem.strKind prog w) s.heap.objs.size F m → Known xs xs.length F m → (∀ b o, b < s.heap.objs.size → s.heap.get? b = some o → h2.get? b = some o) → Q (.ref s.heap.objs.size) { s with heap := h2, toks := tk }) :
    wpAny (model prog w) A (call (.type "set") [.ref l]) Q E s := by
  obtain ⟨c, tl, hmro⟩ := PySem.F.called_set.mro
  have hmade := PySem.F.called_set.made; have hsub := PySem.F.called_set.sub
  refine wpAny_call (codeAny_of_tree ?_)
  show wpAny _ _ (callAny (.type "set") _) _ _ _
  refine wpAny_pure ⟨Code.quiet_builtin _ (by decide +kernel), codeAny_builtin PySem.F.entry_type_call ?_⟩
  rw [Around.under_plain (weight_type_call_type "set" [.ref l] []) rfl]
  have e1 := PySem.F.called_set.notType; have e2 := PySem.F.called_set.canCreate; have e3 := PySem.F.typeCall_set_1 (.ref l)
  repeat (any_goals (first | assumption | wp_step))
  refine codeAny_mono (code_set_new_1 (.ref l) (E := E) (Q₁ := fun ob s1 => ∃ led : Bool, ob = .ref s.heap.objs.size ∧ s1 = { s with heap := s.heap.push (set0 led) }) fun led => ⟨led, rfl, rfl⟩) fun r s1 hr => ?_
  cases r with
  | error e => exact hr
  | ok fl =>
    cases fl with
    | ret ob =>
      obtain ⟨led, rfl, rfl⟩ := hr
      have at0 : (s.heap.push (set0 led)).get? s.heap.objs.size = some (set0 led) := Heap.get?_push_size _ rfl
      have ty : Shared.TypeIs { s with heap := s.heap.push (set0 led) } (.ref s.heap.objs.size) "set" := ⟨_, at0, rfl⟩
      have i1 := PySem.F.called_set.init.lookup; have i2 := PySem.F.called_set.init.bind (.ref s.heap.objs.size)
      repeat (any_goals (first | assumption | wp_step))
      refine codeAny_mono (codeAny_call_builtin (R := wants (fun r s2 => r = .none ∧ ∃ h2 tk F m, s2 = { s with heap := h2, toks := tk } ∧ h2.SetOf (PySem.strKind prog w) s.heap.objs.size F m ∧ Known xs xs.length F m ∧
          (∀ b o, b < s.heap.objs.size → s.heap.get? b = some o → h2.get? b = some o)) E) PySem.F.called_set.init.plain PySem.F.entry_set_init (check_set_init_1 ty ?_)) fun r2 s2 hr2 => ?_
      · obtain ⟨⟨oc, odc, odt, osl⟩, hol, hcl, nl, hdl⟩ := hl
        simp only at hcl hdl
        subst hcl hdl
        have hol1 : (s.heap.push (set0 led)).get? l = some { cls := .type "list", dict := odc, data := .seq items nl, slots := osl } := Heap.get?_push_of_some _ hol
        have z1 := PySem.F.sub_list_set; have z2 := PySem.F.sub_list_frozenset
        have z3 : (Value.type "list" == Value.type "dict") = false := by decide
        have hl1 : (s.heap.push (set0 led)).IsList l items := ⟨_, hol1, rfl, nl, rfl⟩
        unfold Builtin.«set.__init__» noKeywords Builtin.Frozenset.updateFrom
        generalize hPI : pyIter = PI; wp_walk; subst hPI
        refine wpAny_pyIter_list hl1 (wpAny_bind (wpAny_runValue ?_))
        have lS : l < s.heap.objs.size := Heap.lt_size hol
        have hh3 : A.in1.in1.in1.handled = none := by simp [hh]
        have szp : (s.heap.push (set0 led)).objs.size = s.heap.objs.size + 1 := Heap.size_push ..
        have nI : l ≠ (s.heap.push (set0 led)).objs.size := by rw [szp]; exact Nat.ne_of_lt (Nat.lt_succ_of_lt lS)
        have nS : s.heap.objs.size ∉ [(s.heap.push (set0 led)).objs.size, l] := by
          rw [szp]; intro z
          rcases List.mem_cons.mp z with z | z
          · exact absurd z (Nat.ne_of_lt (Nat.lt_succ_self _))
          · exact absurd (List.mem_singleton.mp z) (Nat.ne_of_gt lS)
        have len : xs.length = items.size := by rw [← StrsAre.len_eq hi, Array.length_toList]
        have val : ∀ (i : Nat) (v : Value), items[i]? = some v → ∃ t, v = .str (xs.getD i Str.empty) t := fun i v z => SS.strs_at hi i v (by rw [Array.getElem?_toList]; exact z)
        refine fill ((Walks.list hh3 _ l nI items).toS) s.heap.objs.size nS xs len (by rw [← len]; exact small) val (items.size - 0) 0 _ (fun _ => false) 0 (by omega) (Nat.zero_le _) ⟨⟨_, Heap.get?_push_size _ rfl, rfl, rfl⟩, (hl1.push _)⟩ ?_ ⟨fun _ => rfl, Nat.le_refl _, fun _ => List.nodup_nil⟩ ?_
        · exact (PyProof.Rows.setObjOf_fresh (knd := PySem.strKind prog w) led).setOf (Heap.get?_push_of_some _ at0) (by unfold scanBound; omega)
        · intro s3 F3 m3 mv S3 K3
          obtain ⟨h3, g3, d3, t3, o3⟩ := s3
          obtain rfl : g3 = s.gens := mv.gens
          obtain rfl : d3 = s.drawn := mv.drawn
          obtain rfl : o3 = s.os := mv.os
          refine wpAny_pure (wpAny_pure ⟨rfl, h3, t3, F3, m3, rfl, S3, by rw [len]; exact K3, fun b o hb z => ?_⟩)
          refine mv.heap b o (fun y => ?_) (Heap.get?_push_of_some _ (Heap.get?_push_of_some _ z))
          rcases List.mem_cons.mp y with y | y
          · exact absurd y (Nat.ne_of_lt hb)
          · have y' := List.mem_singleton.mp y
            rw [szp] at y'
            exact absurd y' (Nat.ne_of_lt (Nat.lt_succ_of_lt hb))
      · cases r2 with
        | error e => exact hr2
        | ok fl2 =>
          cases fl2 with
          | ret r =>
            obtain ⟨rfl, h2, tk, F, m, rfl, S2, K2, kp⟩ := hr2
            repeat (any_goals (first | assumption | wp_step))
            exact fin _ _ _ _ S2 K2 kp
          | _ => exact hr2.elim
    | _ => exact hr.elim
end
/-- len(set(xs)) of a list of texts -/
def tLenSetT (K : PySem.W.Frag) (ta : TE) : TE := fun σ H Q => ta σ H fun x H1 => ∃ l, ∃ xs : List Str, x = .ref l ∧ SqL K H1 l (xs.map V.str) ∧ xs.length ≤ 1000 ∧ ∀ m : Nat, m ≤ xs.length → (m = xs.length → xs.Nodup) → Q (.int m) H1
theorem pe_lenSetT {X : Cx} {e : Expr} {ta : TE} {p p2 q pos : Pos} (hc : X.calm = true) (hg : Gl X "len") (hm : X.mg "len" = none) (hg2 : Gl X "set") (hm2 : X.mg "set" = none) (ha : PE X e ta)
    (na : starEach [e] X.env = (false, eval e X.env) :: starEach [] X.env := by rfl) : PE X (.Call (.Name "len" p) [.Call (.Name "set" p2) [e] [] q] [] pos) (tLenSetT X.K ta) := by
  refine ⟨fun pins s σ H Q I h => ?_⟩
  refine Call_ (ld_blt I hg hm boot_len (PyProof.Rows.callWith_builtin1 (PyProof.Rows.args_cons ?_ rfl) rfl rfl))
  refine Call_ (ld_blt I hg2 hm2 boot_set ?_)
  refine PyProof.Rows.callWith_type1 (PyProof.Rows.args_cons (thn (ha.run pins s σ H _ I h) fun v s1 ⟨x, H1, I1, r1, q1⟩ => PyProof.Rows.args_nil ?_) na) na rfl
  obtain ⟨l, xs, rfl, hq, small, q1⟩ := q1
  cases r1
  obtain ⟨its, rv, pl, hz⟩ := I1.list hq
  refine set_texts (I1.ok.hd hc) pl.isList (by simpa using strsAre_of rv) small fun h2 tk F m S2 K2 kp => PyProof.Rows.args_nil ?_
  obtain ⟨o, es, ep, t, ho, hex, hd, _, _, _, hf, hn⟩ := S2
  have I2 : Inv X pins σ H1 { s1 with heap := h2, toks := tk } := I1.kept fun b o z => kp b o (Heap.lt_size z) z
  have k1 := K2.2.1
  refine call_len_set ho hex hd hf (by rw [hn]; omega) ⟨.int m, H1, I2.tok _, ⟨_, by rw [hn]⟩, q1 m k1 fun z => ?_⟩
  have := K2.2.2 z
  rwa [List.take_length] at this
end StT

namespace MxD
open PySem PySem.Spec PyProof.Rows L2
/-! max(xs, default=d) of a list of ints -/
theorem name_loop : (toString "max" ++ toString ".loop" : String) = "max.loop" := by decide
abbrev best0 (vs : Array Value) (c : Nat) : Obj := { cls := .type "list", dict := none, data := .seq vs c, slots := #[] }
section
variable {prog : Program} {w : World} {A : Around} {R : Result → Shared → Prop} {I : Addr} {fp wr : List Addr} {n : Nat} {P : Nat → Value → Prop} {St : Nat → Heap → Prop}
theorem turns (Wk : Walks prog w A.in1 I fp wr n P St) (bt : Nat → Nat → Bool) (cmp : CmpOf prog w A.in1 .Gt P bt) (S : Addr) (nS : S ∉ fp) (kw : List (Str × Value)) :
    ∀ (k j : Nat) (s : Shared) (u : Value) (c : Nat), n - (j + 1) = k → j + 1 ≤ n → St (j + 1) s.heap → P (argBest bt j) u → s.heap.get? S = some (best0 #[u, u] c) →
      (∀ v h2 tk, P (argBest bt (n - 1)) v → (∀ b o, b ∉ wr → b ≠ S → s.heap.get? b = some o → h2.get? b = some o) → R (.ok (.ret v)) { s with heap := h2, toks := tk }) →
      codeAny (model prog w) A (.builtin "max.loop" ⟨[.ref I, .none, .ref S], kw⟩) R s := by
  have nW : S ∉ wr := fun z => nS (Wk.sub _ z)
  intro k
  induction k with
  | zero =>
    intro j s u c hk hj st hu hS fin
    have e : j + 1 = n := by omega
    refine codeAny_builtin F.entry_max_loop ?_; rw [Around.under_plainId F.plain_max_loop _]
    refine wpAny_bind (wpAny_seqItems hS rfl (wpAny_bind (wpAny_tryCatch (Wk.done s _ _ (e ▸ st) fun h2 tk kp => ?_))))
    have S2 := kp S _ nW hS
    refine wpAny_bind (wpAny_updateSeq S2 rfl (wpAny_bind (wpAny_letGo (wpAny_pure ?_))))
    exact fin u _ tk (by rw [← e]; exact hu) fun b o nb nbS z => (Heap.get?_update_other _ _ (Ne.symm nbS)).trans (kp b o nb z)
  | succ k ih =>
    intro j s u c hk hj st hu hS fin
    have lt : j + 1 < n := by omega
    refine codeAny_builtin F.entry_max_loop ?_; rw [Around.under_plainId F.plain_max_loop _]
    refine wpAny_bind (wpAny_seqItems hS rfl (wpAny_bind (wpAny_tryCatch (Wk.item (j + 1) s _ _ lt st fun v h2 tk hP st2 kp => ?_))))
    have S2 := kp S _ nW hS
    show wpAny _ A.in1 (tryCatch (holding [v, v] (richCompare .Gt v u >>= _)) _ >>= _) _ _ _
    refine wpAny_bind (wpAny_tryCatch (wpAny_holding (wpAny_bind (cmp (j + 1) (argBest bt j) v u _ _ _ hP hu ?_))))
    refine wpAny_bind (wpAny_holding (wpAny_truthy_bool (wpAny_bind (wpAny_letGo (wpAny_pure ?_)))))
    cases hb : bt (j + 1) (argBest bt j) with
    | true =>
      simp only [if_true]
      refine wpAny_bind (wpAny_updateSeq S2 rfl (wpAny_bind (wpAny_letGo ?_))); rw [name_loop]
      refine wpAny_pure ⟨plainId_quiet F.plain_max_loop _, ih (j + 1) _ v _ (by omega) lt (Wk.frame _ _ _ st2 fun b hbf o z => ?_) (by simp only [argBest, hb, if_true]; exact hP) (Heap.get?_update_self _ S2 rfl) fun v3 h3 t3 P3 kp3 => ?_⟩
      · exact (Heap.get?_update_other _ _ (fun y : S = b => nS (by rw [y]; exact hbf))).trans z
      · exact fin v3 h3 t3 P3 fun b o nb nbS z => kp3 b o nb nbS ((Heap.get?_update_other _ _ (Ne.symm nbS)).trans (kp b o nb z))
    | false =>
      simp only [Bool.false_eq_true, if_false]
      refine wpAny_bind (wpAny_letGo ?_); rw [name_loop]
      refine wpAny_pure ⟨plainId_quiet F.plain_max_loop _, ih (j + 1) _ u c (by omega) lt st2 (by simp only [argBest, hb, Bool.false_eq_true, if_false]; exact hu) S2 fun v3 h3 t3 P3 kp3 => ?_⟩
      exact fin v3 h3 t3 P3 fun b o nb nbS z => kp3 b o nb nbS (kp b o nb z)
theorem firstT (Wk : Walks prog w A.in1 I fp wr n P St) (bt : Nat → Nat → Bool) (cmp : CmpOf prog w A.in1 .Gt P bt) (S : Addr) (nS : S ∉ fp) (nm : Str) (d : Value) {s : Shared} {c : Nat} (st : St 0 s.heap) (hS : s.heap.get? S = some (best0 #[] c))
    (fin : ∀ v h2 tk, (n = 0 → v = d) → (0 < n → P (argBest bt (n - 1)) v) → (∀ b o, b ∉ wr → b ≠ S → s.heap.get? b = some o → h2.get? b = some o) → R (.ok (.ret v)) { s with heap := h2, toks := tk }) :
    codeAny (model prog w) A (.builtin "max.loop" ⟨[.ref I, .none, .ref S], [(nm, d)]⟩) R s := by
  have nW : S ∉ wr := fun z => nS (Wk.sub _ z)
  refine codeAny_builtin F.entry_max_loop ?_; rw [Around.under_plainId F.plain_max_loop _]
  refine wpAny_bind (wpAny_seqItems hS rfl (wpAny_bind (wpAny_tryCatch ?_)))
  by_cases hn : n = 0
  · refine Wk.done s _ _ (hn ▸ st) fun h2 tk kp => ?_
    refine wpAny_bind (wpAny_rule (wpAny_pure ?_))
    exact fin d h2 tk (fun _ => rfl) (fun z => absurd hn (by omega)) fun b o nb _ z => kp b o nb z
  · refine Wk.item 0 s _ _ (by omega) st fun v h2 tk hP st2 kp => ?_
    have S2 := kp S _ nW hS
    show wpAny _ A.in1 (updateSeq S (fun _ => #[v, v]) >>= _) _ _ _
    refine wpAny_bind ?_; refine wpAny_updateSeq S2 rfl ?_; rw [name_loop]
    refine wpAny_pure ⟨plainId_quiet F.plain_max_loop _, turns Wk bt cmp S nS _ _ 0 _ v _ rfl (by omega) (Wk.frame _ _ _ st2 fun b hbf o z => ?_) hP (Heap.get?_update_self _ S2 rfl) fun v3 h3 t3 P3 kp3 => ?_⟩
    · exact (Heap.get?_update_other _ _ (fun y : S = b => nS (by rw [y]; exact hbf))).trans z
    · exact fin v3 h3 t3 (fun z => absurd z hn) (fun _ => P3) fun b o nb nbS z => kp3 b o nb nbS ((Heap.get?_update_other _ _ (Ne.symm nbS)).trans (kp b o nb z))
end
section
variable {prog : Program} {w : World} {A : Around} {E : Value → Shared → Prop} {s : Shared}
theorem args_kw (a d : Value) : argsOk "max" ⟨[a], [("default", d)]⟩ := by unfold argsOk; kernel_rfl
theorem tree_kw {id : String} {b : Builtin} {args : List Value} {kw : List (Str × Value)} {Q : Value → Shared → Prop} (hk : builtinKind id = none) (hp : plainId id = true) (hb : entryFor table id = some b) (ha : argsOk id ⟨args, kw⟩)
    (hc : wpAny (model prog w) A.in1 (b ⟨args, kw⟩) (fun f s2 => match f with
      | .done g => (match (Except.ok g : Result) with | .ok (.ret v) => Q v s2 | .ok _ => False | .error e => E e s2)
      | .again c2 => c2.quiet = true ∧ codeAny (model prog w) A c2 (fun r s2 => match r with | .ok (.ret v) => Q v s2 | .ok _ => False | .error e => E e s2) s2) E s) : wpAny (model prog w) A (call (.builtin id) args kw) Q E s := by
  refine wpAny_call (codeAny_call_builtin hp hb ?_); simp only [checkBuiltinCall, hk]
  cases sg : Manifest.signature? id with
  | none => exact wpAny_pure hc
  | some q =>
    simp only [argsOk, sg] at ha
    have ok : Bind.checkArgs id q ⟨args, kw⟩ = pure () := ha
    show wpAny _ A.in1 (Bind.checkArgs id q ⟨args, kw⟩) _ _ s
    rw [ok]
    exact wpAny_pure hc
theorem max_dflt {l : Addr} {xs : Array (Int × Tok)} {d : Value} {Q : Value → Shared → Prop} (hh : A.handled = none) (hl : s.heap.IsList l (intItems xs))
    (fin : ∀ v h2 tk, (xs.size = 0 → v = d) → (0 < xs.size → (intItems xs)[argBest (fun i j => decide (numAt xs i > numAt xs j)) (xs.size - 1)]? = some v) → (∀ b o, s.heap.get? b = some o → h2.get? b = some o) → Q v { s with heap := h2, toks := tk }) :
    wpAny (model prog w) A (call (.builtin "max") [.ref l] [("default", d)]) Q E s := by
  refine tree_kw F.kind_max F.plain_max F.entry_max (args_kw _ _) ?_
  show wpAny _ A.in1 (Builtin.Builtins.bindParams "max" ["key", "default"] 0 ⟨[], [("default", d)]⟩ >>= _) _ _ s
  refine wpAny_bind (wpAny_of_eq (show Builtin.Builtins.bindParams "max" ["key", "default"] 0 ⟨[], [("default", d)]⟩ = pure [none, some d] from rfl) ?_)
  refine wpAny_bind (wpAny_pure (wpAny_bind (iter_intList hl fun s2 e st inb ne => ?_)))
  refine wpAny_bind (wpAny_newObj_type ?_)
  have nS : s2.heap.objs.size ∉ [s.heap.objs.size, l] := fun z => Nat.lt_irrefl _ (inb _ z)
  rw [name_loop]
  have Wk := Walks.list (prog := prog) (w := w) (A := A.in1) hh s.heap.objs.size l ne (intItems xs)
  refine wpAny_pure ⟨plainId_quiet F.plain_max_loop _, firstT Wk (fun i j => decide (numAt xs i > numAt xs j)) (CmpOf.ints_gt (numAt xs) (fun _ _ => intItems_at)) s2.heap.objs.size nS "default" d (Wk.frame _ _ _ st fun b _ o z => Heap.get?_push_of_some _ z) (Heap.get?_push_size _ rfl) fun v h2 tk v0 v1 kp => ?_⟩
  have sz : (intItems xs).size = xs.size := by simp [intItems]
  rw [sz] at v0 v1
  subst e
  refine fin v h2 tk v0 v1 fun b o z => ?_
  have lb := Heap.lt_size z
  refine kp b o (fun y => ?_) (fun y => ?_) (Heap.get?_push_of_some _ (Heap.get?_push_of_some _ z))
  · rw [List.mem_singleton.mp y] at lb; exact Nat.lt_irrefl _ lb
  · rw [y] at lb
    have : (s.heap.push { cls := .type "list_iterator", data := .fields #[.ref l, .int 0 0] }).objs.size = s.heap.objs.size + 1 := Heap.size_push ..
    have lb' : (s.heap.push { cls := .type "list_iterator", data := .fields #[.ref l, .int 0 0] }).objs.size < s.heap.objs.size := lb
    rw [this] at lb'
    exact absurd lb' (Nat.not_lt.mpr (Nat.le_succ _))
end
/-- max(xs, default=d): the greatest, or d -/
def rMaxD (K : PySem.W.Frag) : List V → List V → Hp → VK → Prop := fun vs zs H Q => ∃ (a : Addr) (ns : List Int) (d : V), vs = [V.ref a] ∧ zs = [d] ∧ SqL K H a (ns.map V.int) ∧ (ns = [] → Q d H) ∧ ∀ m ∈ ns, (∀ k ∈ ns, k ≤ m) → Q (.int m) H
theorem cr_maxD {X : Cx} (hc : X.calm = true) : CallRK X (.builtin "max") ["default"] (rMaxD X.K) := by
  intro pins s σ H vs zs us ws Q I r rz h
  obtain ⟨p, ns, d, rfl, rfl, hs, q0, q1⟩ := h
  obtain ⟨its, rv, hl, _⟩ := I.list hs
  rw [Vals.ref1 r]
  cases rz with
  | @cons _ dv _ _ rd rn =>
    cases rn
    have hi := rv.ints
    obtain ⟨xs, e⟩ := hi.allInts.items
    have hn : numsOf (intItems xs).toList = ns := by rw [← e]; exact hi.numsOf
    rw [nums_intItems] at hn
    subst hn
    have hl2 := hl.isList
    rw [e] at hl2
    show wpAny _ _ (call (.builtin "max") [.ref p] [("default", dv)]) _ _ _
    refine max_dflt (I.ok.hd hc) hl2 fun v h2 tk v0 v1 kp => ?_
    by_cases z : xs.size = 0
    · rw [v0 z]
      have z2 : xs.toList = [] := List.length_eq_zero_iff.mp (by rw [Array.length_toList]; exact z)
      exact ⟨d, H, I.kept kp, rd, q0 (by rw [z2]; rfl)⟩
    · obtain ⟨t, rfl⟩ := intItems_at (v1 (by omega))
      obtain ⟨_, b2⟩ := argBest_gt (numAt xs) (xs.size - 1)
      refine ⟨.int _, H, I.kept kp, ⟨_, rfl⟩, q1 _ ?_ fun k hk => ?_⟩
      · rw [numAt_eq]; exact PySem.getD_mem (by rw [List.length_map, Array.length_toList]; omega)
      · obtain ⟨j, hj, rfl⟩ := mem_getD hk
        rw [List.length_map, Array.length_toList] at hj
        rw [← numAt_eq]; exact b2 j (by omega)
end MxD

namespace NlC
open PySem PySem.Spec PyProof.Rows L2
/-! a list of anything beside the empty list -/
section
variable {X : Cx}
def rNeNil (K : PySem.W.Frag) : R2 := fun x y H Q => ∃ (a b : Addr) (xs : List V), x = .ref a ∧ y = .ref b ∧ SqL K H a xs ∧ SqL K H b [] ∧ Q (.bl (!xs.isEmpty)) H
theorem op_neNil (hu : X.A.units < cLine) : OpR X (compareOp .NotEq) (rNeNil X.K) := by
  intro pins s σ H x y v u Q I rx ry h
  obtain ⟨a, b, xs, rfl, rfl, ha, hb, q⟩ := h
  cases rx
  cases ry
  obtain ⟨its, rv, l1, _⟩ := I.list ha
  obtain ⟨its2, rv2, l2, _⟩ := I.list hb
  have l1' : s.heap.IsList a its.toArray := by obtain ⟨o, n, ho, hc, _, hd⟩ := l1; exact ⟨o, ho, hc, n, hd⟩
  have l2' : s.heap.IsList b its2.toArray := by obtain ⟨o, n, ho, hc, _, hd⟩ := l2; exact ⟨o, ho, hc, n, hd⟩
  clear l1 l2
  have e2 : its2 = [] := rv2.zero
  subst e2
  cases xs with
  | nil =>
    have e1 : its = [] := rv.zero
    subst e1
    exact SeqAt.RcNeAt.lists l1' l2' rfl hu (e := fun _ => true) (fun j h => absurd h (Nat.not_lt_zero _)) X.prog X.w _ _ ⟨.bl _, H, I, rfl, q⟩
  | cons z zs =>
    cases rv with
    | cons r1 r2 =>
      exact SeqAt.RcNeAt.lists_lengths l1' l2' (by simp) hu X.prog X.w _ _ ⟨.bl _, H, I, rfl, q⟩
end
end NlC

set_option Elab.async false
set_option linter.all false
set_option maxRecDepth 100000
set_option maxHeartbeats 4000000
namespace Gait
open PySem PySem.Spec PyProof.Rows L2
section
variable {X : Cx}
/-- // by any divisor but 0 -/
def CDivA (_ j : Int) : Prop := j ≠ 0 ∧ j.natAbs.log2 < 9000
theorem op_fdivA : OpR X (binaryOp .FloorDiv) (rI CDivA fun i j => .int (i.fdiv j)) := opI fun _ _ _ _ _ _ _ hc w => floordiv_int hc.1 w (.inl (PyProof.noPylong_of_log2 hc.2))
end
/-- what stood stands, but for what stands at r -/
def Kp (r : Addr) (H H' : Hp) : Prop := (∀ b o, b ≠ r → H b = some o → H' b = some o) ∧ ∀ c l, H r = some (.lst (.ref c :: l)) → ∃ l', H' r = some (.lst (.ref c :: l'))
theorem Kp.refl {r : Addr} {H : Hp} : Kp r H H := ⟨fun _ _ _ h => h, fun _ l h => ⟨l, h⟩⟩
theorem Kp.trans {r : Addr} {H H1 H2 : Hp} (a : Kp r H H1) (b : Kp r H1 H2) : Kp r H H2 := ⟨fun c o n h => b.1 c o n (a.1 c o n h), fun c l h => by
  obtain ⟨l1, h1⟩ := a.2 c l h
  exact b.2 c l1 h1⟩
theorem Kp.of {r : Addr} {H H' : Hp} (s : Same H H') : Kp r H H' := ⟨fun b o _ h => s b o h, fun _ l h => ⟨l, s _ _ h⟩⟩
theorem Kp.at {r c : Addr} {H : Hp} {l l' : List V} (e : H r = some (.lst (.ref c :: l))) : Kp r H (upd H r (.lst (.ref c :: l'))) := ⟨fun b u n h => by rw [upd_ne n]; exact h, fun d m h => by
  rw [e] at h
  cases h
  exact ⟨l', upd_same⟩⟩
theorem Kp.rd {r x : Addr} {H H' : Hp} {u : HO} (k : Kp r H H') (n : x ≠ r) (h : Rd H x u) : Rd H' x u := by
  rcases h with h | ⟨o, h⟩
  · exact .inl (k.1 _ _ n h)
  · exact .inr ⟨o, k.1 _ _ n h⟩
theorem Kp.L {K : PySem.W.Frag} {r x : Addr} {H H' : Hp} {xs : List V} (k : Kp r H H') (n : x ≠ r) (h : SqL K H x xs) : SqL K H' x xs := by
  rcases h with h | h
  · exact .inl (k.rd n h)
  · exact .inr h
theorem Kp.T {K : PySem.W.Frag} {r x : Addr} {H H' : Hp} {xs : List V} (k : Kp r H H') (n : x ≠ r) (h : SqT K H x xs) : SqT K H' x xs := by
  rcases h with h | h
  · exact .inl (k.rd n h)
  · exact .inr h
theorem Same.T {K : PySem.W.Frag} {x : Addr} {H H' : Hp} {xs : List V} (k : Same H H') (h : SqT K H x xs) : SqT K H' x xs := by
  rcases h with (h | ⟨o, h⟩) | h
  · exact .inl (.inl (k _ _ h))
  · exact .inl (.inr ⟨o, k _ _ h⟩)
  · exact .inr h
theorem Same.new {H : Hp} {p : Addr} {o : HO} (h : H p = none) : Same H (upd H p o) := fun b x e => by
  rw [upd_ne (ne_of_none e h)]
  exact e
theorem some_ne_none {H : Hp} {p q : Addr} {o : HO} (h : H p = some o) (n : H q = none) : p ≠ q := ne_of_none h n
/-- the law's source of numbers at r -/
structure RgS (H : Hp) (r c : Addr) (ns : List Int) (i x k : Int) : Prop where
  hr : H r = some (.lst [.ref c, .int i, .int x, .int k])
  hc : H c = some (.lst (ns.map V.int))
  i0 : 0 ≤ i
  i1 : i ≤ (ns.length : Int)
  x0 : 0 ≤ x
  k0 : 0 ≤ k
  k1 : k < 2147483563
theorem RgS.ne {H : Hp} {r c : Addr} {ns : List Int} {i x k : Int} (R : RgS H r c ns i x k) : c ≠ r := by
  refine ne_of R.hc R.hr fun z => ?_
  cases ns with
  | nil => cases z
  | cons m l => cases z
theorem RgS.set {H : Hp} {r c : Addr} {ns : List Int} {i x k i' x' k' : Int} (R : RgS H r c ns i x k) (i0 : 0 ≤ i') (i1 : i' ≤ (ns.length : Int)) (x0 : 0 ≤ x') (k0 : 0 ≤ k') (k1 : k' < 2147483563) : RgS (upd H r (.lst [.ref c, .int i', .int x', .int k'])) r c ns i' x' k' :=
  ⟨upd_same, by rw [upd_ne R.ne]; exact R.hc, i0, i1, x0, k0, k1⟩
def Rg (H : Hp) (r : Addr) : Prop := ∃ c ns i x k, RgS H r c ns i x k
theorem Rg.same {H H' : Hp} {r : Addr} (R : Rg H r) (s : Same H H') : Rg H' r := by
  obtain ⟨c, ns, i, x, k, R⟩ := R
  exact ⟨c, ns, i, x, k, s _ _ R.hr, s _ _ R.hc, R.i0, R.i1, R.x0, R.k0, R.k1⟩
theorem Rg.some {H : Hp} {r : Addr} (R : Rg H r) : ∃ o, H r = some o := by
  obtain ⟨c, ns, i, x, k, R⟩ := R
  exact ⟨_, R.hr⟩
theorem Rg.ne {H : Hp} {r p : Addr} (R : Rg H r) (h : H p = none) : p ≠ r := by
  obtain ⟨o, e⟩ := R.some
  exact (ne_of_none e h).symm
/-- what is new at H2 may be written later -/
theorem Rg.put {H2 H5 : Hp} {r D : Addr} {o : HO} (R2 : Rg H2 r) (nD : H2 D = none) (k : Kp r H2 H5) (R5 : Rg H5 r) : Rg (upd H5 D o) r := by
  have Dr : D ≠ r := R2.ne nD
  obtain ⟨c2, n2, i2, x2, k2, R2⟩ := R2
  obtain ⟨c, ns, i, x, kk, R⟩ := R5
  obtain ⟨l', e⟩ := k.2 _ _ R2.hr
  rw [R.hr] at e
  cases e
  exact ⟨c2, ns, i, x, kk, by rw [upd_ne Dr.symm]; exact R.hr, by rw [upd_ne (ne_of_none R2.hc nD)]; exact R.hc, R.i0, R.i1, R.x0, R.k0, R.k1⟩
theorem Kp.put {H H2 H5 : Hp} {r D : Addr} {o : HO} (nD : H2 D = none) (Dr : D ≠ r) (k : Kp r H2 H5) : Kp r H2 (upd H5 D o) := ⟨fun b u nb e => by
  rw [upd_ne (ne_of_none e nD)]
  exact k.1 _ _ nb e, fun c l e => by
  obtain ⟨l', e'⟩ := k.2 c l e
  exact ⟨l', by rw [upd_ne Dr.symm]; exact e'⟩⟩
theorem sz {n : Nat} (h : n ≤ 100000) : n ≤ sizeLine := Nat.le_trans h (by decide)
theorem szl {n : Nat} (h : n < 100000) : n < sizeLine := Nat.lt_of_lt_of_le h (by decide)
theorem gcd_step {a b : Int} (h0 : 0 ≤ a) (hb : 0 ≤ b) : Int.gcd b (a % b) = Int.gcd a b := by
  rw [Int.gcd_eq_natAbs_gcd_natAbs, Int.gcd_eq_natAbs_gcd_natAbs, Int.natAbs_emod_of_nonneg h0, Nat.gcd_comm a.natAbs b.natAbs, Nat.gcd_rec b.natAbs a.natAbs, Nat.gcd_comm]
/-- a fraction in lowest terms -/
def red (n d : Int) : Int × Int := ((if d > 0 then 1 else -1) * n / (Int.gcd n d : Int), (if d > 0 then 1 else -1) * d / (Int.gcd n d : Int))
theorem gcd_posI {n d : Int} (hd : d ≠ 0) : (0 : Int) < (Int.gcd n d : Int) := by
  have : 0 < Int.gcd n d := Int.gcd_pos_of_ne_zero_right n hd
  omega
theorem sgn_cases (d : Int) : ((if d > 0 then (1 : Int) else -1) = 1 ∧ d > 0) ∨ ((if d > 0 then (1 : Int) else -1) = -1 ∧ ¬ d > 0) := by
  by_cases h : d > 0
  · exact .inl ⟨if_pos h, h⟩
  · exact .inr ⟨if_neg h, h⟩
theorem red_parts {n d : Int} (hd : d ≠ 0) : ∃ s g a b : Int, (s = 1 ∨ s = -1) ∧ 0 < g ∧ g = (Int.gcd n d : Int) ∧ s * n = g * a ∧ s * d = g * b ∧ 0 < b ∧ red n d = (a, b) ∧ Int.gcd a b = 1 := by
  have g0 := gcd_posI (n := n) hd
  obtain ⟨u, hu⟩ := Int.gcd_dvd_left n d
  obtain ⟨v, hv⟩ := Int.gcd_dvd_right n d
  have hg : Int.gcd u v = 1 := by
    have h1 : Int.gcd n d = (Int.gcd n d) * Int.gcd u v := by
      have e := Int.gcd_mul_left (Int.gcd n d : Int) u v
      rw [← hu, ← hv] at e
      simpa using e
    have h2 : 0 < Int.gcd n d := by omega
    have h3 : Int.gcd n d * 1 = Int.gcd n d * Int.gcd u v := by omega
    exact (Nat.eq_of_mul_eq_mul_left h2 h3).symm
  generalize hG : (Int.gcd n d : Int) = g at *
  have key : ∀ s : Int, (s = 1 ∨ s = -1) → Int.gcd (s * u) (s * v) = 1 := by
    intro s hs
    rcases hs with rfl | rfl
    · simpa using hg
    · simpa using hg
  have div : ∀ s w x : Int, x = g * w → s * x / g = s * w := by
    intro s w x e
    rw [e, show s * (g * w) = g * (s * w) by rw [← Int.mul_assoc, Int.mul_comm s g, Int.mul_assoc]]
    exact Int.mul_ediv_cancel_left _ (by omega)
  rcases sgn_cases d with ⟨e, h⟩ | ⟨e, h⟩
  · refine ⟨1, g, 1 * u, 1 * v, .inl rfl, g0, rfl, ?_, ?_, ?_, ?_, key 1 (.inl rfl)⟩
    · rw [hu]; simp
    · rw [hv]; simp
    · have : 0 < g * v := by omega
      have := Int.pos_of_mul_pos_right this (by omega)
      omega
    · unfold red
      rw [e, hG, div 1 u n hu, div 1 v d hv]
  · refine ⟨-1, g, -1 * u, -1 * v, .inr rfl, g0, rfl, ?_, ?_, ?_, ?_, key (-1) (.inr rfl)⟩
    · rw [hu]; simp [Int.mul_neg]
    · rw [hv]; simp [Int.mul_neg]
    · have h4 : 0 < g * (-v) := by
        rw [Int.mul_neg]
        omega
      have := Int.pos_of_mul_pos_right h4 (by omega)
      omega
    · unfold red
      rw [e, hG, div (-1) u n hu, div (-1) v d hv]
theorem red_pos {n d : Int} (hd : d ≠ 0) : 0 < (red n d).2 := by
  obtain ⟨s, g, a, b, _, _, _, _, _, hb, e, _⟩ := red_parts (n := n) hd
  rw [e]; exact hb
theorem red_gcd {n d : Int} (hd : d ≠ 0) : Int.gcd (red n d).1 (red n d).2 = 1 := by
  obtain ⟨s, g, a, b, _, _, _, _, _, hb, e, hg⟩ := red_parts (n := n) hd
  rw [e]; exact hg
theorem red_eq {n d : Int} (hd : d ≠ 0) : (red n d).1 * d = n * (red n d).2 := by
  obtain ⟨s, g, a, b, hs, g0, _, h1, h2, hb, e, hg⟩ := red_parts (n := n) hd
  rw [e]
  show a * d = n * b
  have hs2 : s ≠ 0 := by omega
  apply Int.eq_of_mul_eq_mul_left (a := s * g) (by
    intro z
    rcases Int.mul_eq_zero.mp z with z | z <;> omega)
  calc s * g * (a * d) = (g * a) * (s * d) := by simp only [Int.mul_assoc, Int.mul_comm, Int.mul_left_comm]
    _ = (s * n) * (g * b) := by rw [h1, h2]
    _ = s * g * (n * b) := by simp only [Int.mul_assoc, Int.mul_comm, Int.mul_left_comm]
theorem natAbs_sgn {s n : Int} (hs : s = 1 ∨ s = -1) : (s * n).natAbs = n.natAbs := by
  rcases hs with rfl | rfl
  · simp
  · simp
theorem red_le1 {n d : Int} (hd : d ≠ 0) : (red n d).1.natAbs ≤ n.natAbs := by
  obtain ⟨s, g, a, b, hs, g0, _, h1, h2, hb, e, hg⟩ := red_parts (n := n) hd
  rw [e, ← natAbs_sgn (n := n) hs, h1, Int.natAbs_mul]
  exact Nat.le_mul_of_pos_left _ (by omega)
theorem red_le2 {n d : Int} (hd : d ≠ 0) : (red n d).2.natAbs ≤ d.natAbs := by
  obtain ⟨s, g, a, b, hs, g0, _, h1, h2, hb, e, hg⟩ := red_parts (n := n) hd
  rw [e, ← natAbs_sgn (n := d) hs, h2, Int.natAbs_mul]
  exact Nat.le_mul_of_pos_left _ (by omega)
theorem dvd_cop {x y z : Int} (h : x ∣ y * z) (g : Int.gcd x z = 1) : x ∣ y := by
  rw [← Int.natAbs_dvd_natAbs, Int.natAbs_mul] at h
  rw [← Int.natAbs_dvd_natAbs]
  exact Nat.Coprime.dvd_of_dvd_mul_right g h
theorem low_unique {a b c e : Int} (hb : 0 < b) (he : 0 < e) (g1 : Int.gcd a b = 1) (g2 : Int.gcd c e = 1) (h : a * e = c * b) : a = c ∧ b = e := by
  have d1 : b ∣ e := by
    have : b ∣ e * a := ⟨c, by rw [Int.mul_comm e a, h, Int.mul_comm]⟩
    exact dvd_cop this (by rw [Int.gcd_comm]; exact g1)
  have d2 : e ∣ b := by
    have : e ∣ b * c := ⟨a, by rw [Int.mul_comm b c, ← h, Int.mul_comm]⟩
    exact dvd_cop this (by rw [Int.gcd_comm]; exact g2)
  have hbe : b = e := Int.dvd_antisymm (by omega) (by omega) d1 d2
  subst hbe
  exact ⟨Int.eq_of_mul_eq_mul_right (by omega) h, rfl⟩
theorem red_unique {n d a b : Int} (hd : d ≠ 0) (hb : 0 < b) (g : Int.gcd a b = 1) (h : a * d = n * b) : red n d = (a, b) := by
  have h1 := red_eq (n := n) hd
  have h2 : (red n d).1 * b = a * (red n d).2 := by
    apply Int.eq_of_mul_eq_mul_right hd
    calc (red n d).1 * b * d = ((red n d).1 * d) * b := by simp only [Int.mul_assoc, Int.mul_comm, Int.mul_left_comm]
      _ = (n * b) * (red n d).2 := by rw [h1]; simp only [Int.mul_assoc, Int.mul_comm, Int.mul_left_comm]
      _ = a * (red n d).2 * d := by rw [← h]; simp only [Int.mul_assoc, Int.mul_comm, Int.mul_left_comm]
  obtain ⟨e1, e2⟩ := low_unique (red_pos (n := n) hd) hb (red_gcd hd) g h2
  exact Prod.ext e1 e2
theorem red_self {n d : Int} (hd : 0 < d) (g : Int.gcd n d = 1) : red n d = (n, d) := red_unique (by omega) hd g rfl

/-- the fraction n / d, as a tuple -/
def Fr (K : PySem.W.Frag) (H : Hp) (v : V) (n d : Int) : Prop := ∃ p, v = .ref p ∧ SqT K H p [.int n, .int d]
theorem RgT {K : PySem.W.Frag} {H H' : Hp} {r p : Addr} {xs : List V} (R : Rg H r) (k : Kp r H H') (h : SqT K H p xs) : SqT K H' p xs := by
  obtain ⟨c, ns, i, x, kk, R⟩ := R
  rcases h with (h | ⟨o, h⟩) | h
  · exact .inl (.inl (k.1 _ _ (ne_of h R.hr (fun z => by cases z)) h))
  · exact .inl (.inr ⟨o, k.1 _ _ (ne_of h R.hr (fun z => by cases z)) h⟩)
  · exact .inr h
theorem Fr.kp {K : PySem.W.Frag} {H H' : Hp} {r : Addr} {v : V} {n d : Int} (f : Fr K H v n d) (R : Rg H r) (k : Kp r H H') : Fr K H' v n d := by
  obtain ⟨p, e, h⟩ := f
  exact ⟨p, e, RgT R k h⟩
theorem Fr.same {K : PySem.W.Frag} {H H' : Hp} {v : V} {n d : Int} (f : Fr K H v n d) (k : Same H H') : Fr K H' v n d := by
  obtain ⟨p, e, h⟩ := f
  exact ⟨p, e, Same.T k h⟩
theorem Fr.new {K : PySem.W.Frag} {H : Hp} {p : Addr} {n d : Int} : Fr K (upd H p (.tup [.int n, .int d])) (.ref p) n d := ⟨p, rfl, SqT.of upd_same⟩
/-- a fraction of the law's own: lowest terms, its size -/
structure FrB (K : PySem.W.Frag) (H : Hp) (v : V) (n d : Int) (B : Nat) : Prop where
  fr : Fr K H v n d
  d0 : 0 < d
  g : Int.gcd n d = 1
  nB : n.natAbs < 2 ^ B
  dB : d.natAbs < 2 ^ B
theorem FrB.kp {K : PySem.W.Frag} {H H' : Hp} {r : Addr} {v : V} {n d : Int} {B : Nat} (f : FrB K H v n d B) (R : Rg H r) (k : Kp r H H') : FrB K H' v n d B := ⟨f.fr.kp R k, f.d0, f.g, f.nB, f.dB⟩
theorem FrB.same {K : PySem.W.Frag} {H H' : Hp} {v : V} {n d : Int} {B : Nat} (f : FrB K H v n d B) (k : Same H H') : FrB K H' v n d B := ⟨f.fr.same k, f.d0, f.g, f.nB, f.dB⟩
theorem red_B {K : PySem.W.Frag} {H : Hp} {p : Addr} {n d : Int} {B : Nat} (hd : d ≠ 0) (h1 : n.natAbs < 2 ^ B) (h2 : d.natAbs < 2 ^ B) : FrB K (upd H p (.tup [.int (red n d).1, .int (red n d).2])) (.ref p) (red n d).1 (red n d).2 B :=
  ⟨Fr.new, red_pos hd, red_gcd hd, Nat.lt_of_le_of_lt (red_le1 hd) h1, Nat.lt_of_le_of_lt (red_le2 hd) h2⟩
theorem log2_lt {j : Int} {b : Nat} (hb : j.natAbs < 2 ^ b) (h0 : 0 < b) (h9 : b ≤ 9000) : j.natAbs.log2 < 9000 := Nat.lt_of_lt_of_le (PySem.Flt.log2_lt_of h0 hb) h9
/-! ### equal data -/
def atom : V → Bool
  | .non => true | .bl _ => true | .int _ => true | .str _ => true | _ => false
def Eqd (K : PySem.W.Frag) (H : Hp) : Nat → V → V → Prop
  | 0, x, y => x = y ∧ atom x = true
  | n + 1, x, y => (x = y ∧ atom x = true) ∨ ∃ a b xs ys, x = .ref a ∧ y = .ref b ∧ ((SqL K H a xs ∧ SqL K H b ys) ∨ (SqT K H a xs ∧ SqT K H b ys)) ∧ xs.length = ys.length ∧ xs.length ≤ 100000 ∧ ∀ (i : Nat) u v, xs[i]? = some u → ys[i]? = some v → Eqd K H n u v
theorem Eqd.same {K : PySem.W.Frag} {H H' : Hp} (s : Same H H') : ∀ {n : Nat} {x y : V}, Eqd K H n x y → Eqd K H' n x y
  | 0, _, _, h => h
  | n + 1, _, _, .inl h => .inl h
  | n + 1, _, _, .inr ⟨a, b, xs, ys, e1, e2, h, l, l2, k⟩ => .inr ⟨a, b, xs, ys, e1, e2, h.elim (fun z => .inl ⟨s.seq z.1, s.seq z.2⟩) (fun z => .inr ⟨Same.T s z.1, Same.T s z.2⟩), l, l2, fun i u v hu hv => Eqd.same s (k i u v hu hv)⟩
theorem Eqd.up {K : PySem.W.Frag} {H : Hp} : ∀ {n : Nat} {x y : V}, Eqd K H n x y → Eqd K H (n + 1) x y
  | 0, _, _, h => .inl h
  | n + 1, _, _, .inl h => .inl h
  | n + 1, _, _, .inr ⟨a, b, xs, ys, e1, e2, h, l, l2, k⟩ => .inr ⟨a, b, xs, ys, e1, e2, h, l, l2, fun i u v hu hv => Eqd.up (k i u v hu hv)⟩
theorem Eqd.mono {K : PySem.W.Frag} {H : Hp} {n m : Nat} {x y : V} (h : Eqd K H n x y) (l : n ≤ m) : Eqd K H m x y := by
  induction l with
  | refl => exact h
  | step _ ih => exact ih.up
theorem Eqd.atom {K : PySem.W.Frag} {H : Hp} {n : Nat} {x : V} (h : atom x = true) : Eqd K H n x x := by
  cases n with
  | zero => exact ⟨rfl, h⟩
  | succ n => exact .inl ⟨rfl, h⟩
theorem all2_nil {R : V → V → Prop} : ∀ (i : Nat) u v, ([] : List V)[i]? = some u → ([] : List V)[i]? = some v → R u v := fun i u v h => by cases h
theorem all2_cons {R : V → V → Prop} {x y : V} {xs ys : List V} (h : R x y) (k : ∀ (i : Nat) u v, xs[i]? = some u → ys[i]? = some v → R u v) : ∀ (i : Nat) u v, (x :: xs)[i]? = some u → (y :: ys)[i]? = some v → R u v
  | 0, u, v, h1, h2 => by cases h1; cases h2; exact h
  | i + 1, u, v, h1, h2 => k i u v h1 h2
theorem Eqd.lst {K : PySem.W.Frag} {H : Hp} {n : Nat} {a b : Addr} {xs ys : List V} (h1 : SqL K H a xs) (h2 : SqL K H b ys) (l : xs.length = ys.length) (l2 : xs.length ≤ 100000) (k : ∀ (i : Nat) u v, xs[i]? = some u → ys[i]? = some v → Eqd K H n u v) : Eqd K H (n + 1) (.ref a) (.ref b) :=
  .inr ⟨a, b, xs, ys, rfl, rfl, .inl ⟨h1, h2⟩, l, l2, k⟩
theorem Eqd.tup {K : PySem.W.Frag} {H : Hp} {n : Nat} {a b : Addr} {xs ys : List V} (h1 : SqT K H a xs) (h2 : SqT K H b ys) (l : xs.length = ys.length) (l2 : xs.length ≤ 100000) (k : ∀ (i : Nat) u v, xs[i]? = some u → ys[i]? = some v → Eqd K H n u v) : Eqd K H (n + 1) (.ref a) (.ref b) :=
  .inr ⟨a, b, xs, ys, rfl, rfl, .inr ⟨h1, h2⟩, l, l2, k⟩
theorem tyL {K : PySem.W.Frag} {H : Hp} {a : Addr} {xs : List V} (h : SqL K H a xs) : TyX K H (.ref a) (.type "list") := by
  rcases h with (h | ⟨o, h⟩) | ⟨o, its, n, h, c, _⟩
  · exact .base (.lst h)
  · exact .base (.frz h)
  · exact .kList h c
theorem tyT {K : PySem.W.Frag} {H : Hp} {a : Addr} {xs : List V} (h : SqT K H a xs) : TyX K H (.ref a) (.type "tuple") := by
  rcases h with (h | ⟨o, h⟩) | ⟨o, its, n, h, c, _⟩
  · exact .base (.tup h)
  · exact .fTuple h
  · exact .kTuple h c
theorem rd_isi {K : PySem.W.Frag} {H : Hp} {x : V} {t c : String} {b : Bool} {Q : VK} (ty : TyX K H x (.type t)) (h : kitB t c = some b) (w : Q (.bl b) H) : rIsi K [x, .ty c] H Q := ⟨x, .ty c, .type t, .type c, b, rfl, .ty c, ty, kit_ty h, w⟩
theorem ifF {c : Bool} {A B : Prop} (hc : c = false) (h : B) : if c = true then A else B := by rw [hc, if_neg Bool.false_ne_true]; exact h
theorem ifT {c : Bool} {A B : Prop} (hc : c = true) (h : A) : if c = true then A else B := by rw [if_pos hc]; exact h
theorem fn_false {P : Program} {w : World} {K : PySem.W.Frag} {mg : Str → Option Value} {base : Heap} {CX : CXT} {k : Nat} {f : Addr} {fd : FuncData} {ps : List Str} : FnOk P w K mg base CX k f fd ps (fun _ _ _ _ => False) :=
  ⟨fun _ _ _ _ h => h.elim, fun _ _ _ _ _ _ _ _ _ _ _ _ _ h => h.elim⟩
theorem tYes_if {σ : L2.St} {H : Hp} {A B : Hp → Prop} (h : A H) : tYes σ H fun b H3 => if b = true then A H3 else B H3 := by
  show (if true = true then A H else B H)
  rw [if_pos rfl]
  exact h
/-! ### f(k = v, ..), nothing by position -/
def tCallN0 (m : Nat) (sp : Sp) (gV : List V → List V → List V) (E : XK) (tk : TA) : TE := fun σ H Q => tk σ H fun zs H2 => zs.length = m ∧ sp (gV [] zs) H2 Q E
theorem pe_callN0 {X : Cx} {CX : CXT} {k : Nat} {f : Addr} {fd : FuncData} {ps ks : List Str} {sp : Sp} {E : XK} {x : Str} {p pos : Pos} {kws : List Keyword} {tk : TA} {g : List Value → List Value → List Value} {gV : List V → List V → List V}
    (F : FnOk X.prog X.w X.K X.mg X.base CX k f fd ps sp) (hr : Room k X.A) (hg : Gl X x) (hm : X.mg x = some (.ref f)) (hk : PySem.W.keepIn X.K (.ref f) = true) (hb : KBn X.K fd ps 0 ks g gV) (hx : Passes CX X E)
    (hkw : PK X kws tk) (hall : (backToKw pos (keywordEach kws X.env)).all (·.1.isSome) = true := by rfl) (hks : (backToKw pos (keywordEach kws X.env)).filterMap (·.1) = ks := by rfl)
    (hdb : (x == ("__debug__" : Str)) = false := by decide) (hpl : ((backTo pos (starEach [] X.env)).any (·.1) || (backToKw pos (keywordEach kws X.env)).any (·.1.isNone)) = false := by rfl) :
    PE X (.Call (.Name x p) [] kws pos) (tCallN0 ks.length sp gV E tk) := by
  refine ⟨fun pins s σ H Q I h => ?_⟩
  refine wpAny_Call_Name_kw (ld_glob I hg hm ?_ hdb)
  refine PySem.W.callWith_KW0 (h₀ := X.base) I.ok.mod.kin hk hall (thn (hkw.run pos pins s σ H _ I h) fun ws s2 ⟨zs, H2, I2, rz, l2, q2⟩ => ⟨I2.kIn, ?_⟩) hpl
  rw [hks]
  exact run_fnN (us := []) (vs := []) F hr hb hx I2 .nil rz rfl l2 q2
theorem FunD.ok0 {P : Program} {w : World} {K : PySem.W.Frag} {mg : Str → Option Value} {base : Heap} {x qual : Str} {params : Arguments} {body : List Stmt} {scope : Scope} {dvs : List V} {kws : List (Str × V)} {f : Addr} {fd : FuncData} {N ps : List Str} {k : Nat} {sp : Sp}
    (F : FunD K x qual params body scope dvs kws f fd) (S : FnScope N ps scope) (len : ∀ vs H Q E, sp vs H Q E → vs.length = ps.length)
    (hbody : ∀ (cdv : Value) (A : Around) (outer : List Env) (s : Shared) (H : Hp) (vs : List V) (Q : VK) (E : XK), Room k (A.deeper (envOfC qual scope s.heap.objs.size f cdv)) → sp vs H Q E →
      ∃ t, PSs (cxOf CX0 P w K mg base N qual scope f cdv A outer s H E).nox body t ∧ t { nx := fun _ H' => Q .non H', rt := Q } (start N vs) H) : FnOk P w K mg base CX0 (k + 1) f fd ps sp :=
  F.ok S len fun cdv A outer s H vs Q E hr h => by
    obtain ⟨t, a, b⟩ := hbody cdv A outer s H vs Q E hr h
    exact ⟨t, a.nox, b⟩
theorem u65 {k : Nat} {A : Around} (r : Room k A) : A.units + 65 < cLine := by have := r.un; omega
theorem u2 {k : Nat} {A : Around} (r : Room k A) : A.units + 1 < cLine := by have := r.un; omega
theorem ixT {X : Cx} {K : PySem.W.Frag} (h : X.K = K) : IxR X (rIxT K) := by subst h; exact ix_tup
theorem ixL {X : Cx} {K : PySem.W.Frag} (h : X.K = K) : IxR X (rIxL K) := by subst h; exact ix_list
theorem ixS {X : Cx} {K : PySem.W.Frag} (h : X.K = K) : IxR X (rIx K) := by subst h; exact ix_seq
theorem crSumK {X : Cx} {K : PySem.W.Frag} (hc : X.calm = true) (h : X.K = K) : CallR X (.builtin "sum") (rSum K) := by subst h; exact cr_sum hc
theorem callLenK {X : Cx} {K : PySem.W.Frag} (h : X.K = K) : CallR X (.builtin "len") (fun xs H Q => ∃ x n, xs = [x] ∧ LenV K x H n ∧ Q (.int n) H) := by subst h; exact call_len
theorem go_name {i : Nat} {v : V} {σ : L2.St} {H : Hp} {Q : L2.St → Hp → Prop} (h : Q (σ.set i (some v)) H) : gName i v σ H Q := h
theorem go_next {D : Ends} {σ : L2.St} {H : Hp} (h : D.nx σ H) : tNext D σ H := h
theorem go_seq {t u : TS} {D : Ends} {σ : L2.St} {H : Hp} (h : t { D with nx := u D } σ H) : tSeq t u D σ H := h
theorem go_asg {te : TE} {g : TG} {D : Ends} {σ : L2.St} {H : Hp} (h : te σ H fun x H1 => g x σ H1 D.nx) : tAsg te g D σ H := h
theorem both {te : TE} {σ : L2.St} {H : Hp} {Q : VK} (F : V → Hp → Prop) (main : ∀ v H', F v H' → Q v H') (step : ∀ Q' : VK, (∀ v H', F v H' → Q' v H') → te σ H Q') : te σ H Q := step Q main
theorem piLK {X : Cx} {K : PySem.W.Frag} {tg e : Expr} {t : TE} (h : X.K = K) (he : PE X e t) : PI X tg e (iList K t) := by subst h; exact pi_list he
theorem piTK {X : Cx} {K : PySem.W.Frag} {tg e : Expr} {t : TE} (h : X.K = K) (he : PE X e t) : PI X tg e (iTup K t) := by subst h; exact pi_tup he

/-! ### names -/
def kws4 : List V := [.str "max", .str "min", .str "median", .str "mix"]
def lowB (c : Nat) : Bool := decide (97 ≤ c) && decide (c ≤ 122)
def nameB (z : Str) : Bool := (decide (1 ≤ z.length) && decide (z.length ≤ 6)) && (z.cps.toList.all lowB && !inV (.str z) kws4)
theorem one_lt {c d : Nat} : ([c] < [d]) ↔ c < d := by simp [List.cons_lt_cons_iff]
theorem str_a : (("a" : Str)).cps.toList = [97] := by decide +kernel
theorem str_z : (("z" : Str)).cps.toList = [122] := by decide +kernel
theorem le_a {c : Nat} : (!decide ((⟨#[c]⟩ : Str).cps.toList < ("a" : Str).cps.toList)) = decide (97 ≤ c) := by
  rw [str_a]
  show (!decide ([c] < [97])) = _
  by_cases h : c < 97
  · rw [decide_eq_true (one_lt.mpr h), decide_eq_false (by omega)]; rfl
  · rw [decide_eq_false (fun z => h (one_lt.mp z)), decide_eq_true (by omega)]; rfl
theorem le_z {c : Nat} : (!decide (("z" : Str).cps.toList < (⟨#[c]⟩ : Str).cps.toList)) = decide (c ≤ 122) := by
  rw [str_z]
  show (!decide ([122] < [c])) = _
  by_cases h : 122 < c
  · rw [decide_eq_true (one_lt.mpr h), decide_eq_false (by omega)]; rfl
  · rw [decide_eq_false (fun z => h (one_lt.mp z)), decide_eq_true (by omega)]; rfl
theorem abc_mem {c : Nat} : decide (c ∈ (("abcdefghijklmnopqrstuvwxyz" : Str)).cps.toList) = lowB c := by
  have e : (("abcdefghijklmnopqrstuvwxyz" : Str)).cps.toList = (List.range 26).map (· + 97) := by decide +kernel
  rw [e]
  unfold lowB
  by_cases h : 97 ≤ c ∧ c ≤ 122
  · rw [decide_eq_true h.1, decide_eq_true h.2]
    exact decide_eq_true (List.mem_map.mpr ⟨c - 97, by rw [List.mem_range]; omega, by omega⟩)
  · have z : (decide (97 ≤ c) && decide (c ≤ 122)) = false := by
      cases h1 : decide (97 ≤ c) <;> cases h2 : decide (c ≤ 122)
      · rfl
      · rfl
      · rfl
      · exact absurd ⟨of_decide_eq_true h1, of_decide_eq_true h2⟩ h
    rw [z]
    refine decide_eq_false fun hm => ?_
    obtain ⟨x, hx, e⟩ := List.mem_map.mp hm
    rw [List.mem_range] at hx
    omega
theorem tk_more {α β : Type} {f : α → β} {l : List α} {i : Nat} {c : α} (h : l[i]? = some c) : ((l.take (i + 1)).map f) = (l.take i).map f ++ [f c] := by
  rw [List.take_add_one, h, List.map_append]
  rfl
theorem cps_len (z : Str) : z.cps.toList.length = z.length := by simp [Str.length]
theorem gcd_fmod {a b : Int} : Int.gcd b (a.fmod b) = Int.gcd a b := by
  rw [Int.fmod_def, Int.gcd_sub_mul_left_right, Int.gcd_comm]
theorem fmod_lt {a b : Int} (hb : b ≠ 0) : (a.fmod b).natAbs < b.natAbs := by
  have pos : ∀ x y : Int, 0 < y → (x.fmod y).natAbs < y.natAbs := fun x y h => by
    rw [Int.fmod_eq_emod_of_nonneg x (by omega)]
    have h1 := Int.emod_nonneg x (show y ≠ 0 by omega)
    have h2 := Int.emod_lt_of_pos x h
    omega
  rcases Int.lt_or_lt_of_ne hb with h | h
  · have e := pos (-a) (-b) (by omega)
    rw [Int.neg_fmod_neg] at e
    omega
  · exact pos a b h
theorem frac_red {n d : Int} (hd : d ≠ 0) : (n.fdiv (if d < 0 then -(Int.gcd n d : Int) else (Int.gcd n d : Int)), d.fdiv (if d < 0 then -(Int.gcd n d : Int) else (Int.gcd n d : Int))) = red n d := by
  have g0 := gcd_posI (n := n) hd
  have d1 := Int.gcd_dvd_left n d
  have d2 := Int.gcd_dvd_right n d
  unfold red
  generalize (Int.gcd n d : Int) = g at *
  by_cases h : d < 0
  · rw [if_pos h, if_neg (show ¬ d > 0 by omega), Int.fdiv_eq_ediv_of_dvd (Int.neg_dvd.mpr d1), Int.fdiv_eq_ediv_of_dvd (Int.neg_dvd.mpr d2), Int.ediv_neg, Int.ediv_neg]
    rw [show (-1 : Int) * n = -n by omega, show (-1 : Int) * d = -d by omega, Int.neg_ediv_of_dvd d1, Int.neg_ediv_of_dvd d2]
  · rw [if_neg h, if_pos (show d > 0 by omega), Int.fdiv_eq_ediv_of_dvd d1, Int.fdiv_eq_ediv_of_dvd d2, Int.one_mul, Int.one_mul]
theorem red_congr {n d n' d' : Int} (hd : d ≠ 0) (hd' : d' ≠ 0) (h : n * d' = n' * d) : red n d = red n' d' := by
  refine red_unique hd (red_pos hd') (red_gcd hd') ?_
  have e := red_eq (n := n') hd'
  apply Int.eq_of_mul_eq_mul_right hd'
  calc (red n' d').1 * d * d' = ((red n' d').1 * d') * d := by grind
    _ = n' * d * (red n' d').2 := by rw [e]; grind
    _ = n * (red n' d').2 * d' := by rw [← h]; grind
/-! ### sums -/
abbrev QQ := Int × Int
def Low (a : QQ) : Prop := 0 < a.2 ∧ Int.gcd a.1 a.2 = 1
def radd (a b : QQ) : QQ := red (a.1 * b.2 + b.1 * a.2) (a.2 * b.2)
theorem pos_ne {a b : Int} (ha : 0 < a) (hb : 0 < b) : a * b ≠ 0 := Int.ne_of_gt (Int.mul_pos ha hb)
theorem low_red {n d : Int} (hd : d ≠ 0) : Low (red n d) := ⟨red_pos hd, red_gcd hd⟩
theorem low_add {a b : QQ} (ha : Low a) (hb : Low b) : Low (radd a b) := low_red (pos_ne ha.1 hb.1)
theorem radd_eq {a b : QQ} (ha : Low a) (hb : Low b) : (radd a b).1 * (a.2 * b.2) = (a.1 * b.2 + b.1 * a.2) * (radd a b).2 := red_eq (pos_ne ha.1 hb.1)
theorem radd_assoc {a b c : QQ} (ha : Low a) (hb : Low b) (hc : Low c) : radd (radd a b) c = radd a (radd b c) := by
  have lab := low_add ha hb
  have lbc := low_add hb hc
  have e1 := radd_eq ha hb
  have e2 := radd_eq hb hc
  show red _ _ = red _ _
  refine (red_congr (n' := a.1 * b.2 * c.2 + b.1 * a.2 * c.2 + c.1 * a.2 * b.2) (d' := a.2 * b.2 * c.2) (pos_ne lab.1 hc.1) (Int.ne_of_gt (Int.mul_pos (Int.mul_pos ha.1 hb.1) hc.1)) ?_).trans (red_congr (pos_ne ha.1 lbc.1) (Int.ne_of_gt (Int.mul_pos (Int.mul_pos ha.1 hb.1) hc.1)) ?_).symm
  · generalize radd a b = x at *
    grind
  · generalize radd b c = x at *
    grind
theorem radd_zero {b : QQ} (hb : Low b) : radd b (0, 1) = b := by
  show red (b.1 * 1 + 0 * b.2) (b.2 * 1) = b
  rw [show b.1 * 1 + 0 * b.2 = b.1 by omega, show b.2 * 1 = b.2 by omega]
  exact red_self hb.1 hb.2
theorem zero_radd {b : QQ} (hb : Low b) : radd (0, 1) b = b := by
  show red (0 * b.2 + b.1 * 1) (1 * b.2) = b
  rw [show 0 * b.2 + b.1 * 1 = b.1 by omega, show 1 * b.2 = b.2 by omega]
  exact red_self hb.1 hb.2
theorem low0 : Low (0, 1) := ⟨by decide, by decide⟩
theorem low_sum : ∀ {fs : List QQ} {s : QQ}, Low s → (∀ f ∈ fs, Low f) → Low (fs.foldl radd s)
  | [], _, h, _ => h
  | f :: fs, s, h, k => low_sum (fs := fs) (s := radd s f) (low_add h (k f List.mem_cons_self)) fun g hg => k g (List.mem_cons_of_mem _ hg)
theorem sum_from : ∀ {fs : List QQ} {s : QQ}, Low s → (∀ f ∈ fs, Low f) → fs.foldl radd s = radd s (fs.foldl radd (0, 1))
  | [], s, h, _ => (radd_zero h).symm
  | f :: fs, s, h, k => by
    have hf := k f List.mem_cons_self
    have kk : ∀ g ∈ fs, Low g := fun g hg => k g (List.mem_cons_of_mem _ hg)
    show fs.foldl radd (radd s f) = radd s (fs.foldl radd (radd (0, 1) f))
    rw [sum_from (low_add h hf) kk, zero_radd hf, sum_from hf kk, radd_assoc h hf (low_sum low0 kk)]
theorem add_bd {a b : QQ} {A B : Nat} (ha : 0 < a.2) (hb : 0 < b.2) (a1 : a.1.natAbs < 2 ^ A) (a2 : a.2.natAbs < 2 ^ A) (b1 : b.1.natAbs < 2 ^ B) (b2 : b.2.natAbs < 2 ^ B) : (radd a b).1.natAbs < 2 ^ (A + B + 1) ∧ (radd a b).2.natAbs < 2 ^ (A + B + 1) := by
  have hd : a.2 * b.2 ≠ 0 := pos_ne ha hb
  have m1 : (a.1 * b.2).natAbs < 2 ^ (A + B) := by rw [Int.natAbs_mul, Nat.pow_add]; exact Nat.mul_lt_mul'' a1 b2
  have m2 : (b.1 * a.2).natAbs < 2 ^ (A + B) := by rw [Int.natAbs_mul, Nat.pow_add, Nat.mul_comm]; exact Nat.mul_lt_mul'' a2 b1
  have m3 : (a.2 * b.2).natAbs < 2 ^ (A + B) := by rw [Int.natAbs_mul, Nat.pow_add]; exact Nat.mul_lt_mul'' a2 b2
  have e : (2 : Nat) ^ (A + B + 1) = 2 ^ (A + B) * 2 := Nat.pow_succ ..
  have n1 : (radd a b).1.natAbs ≤ (a.1 * b.2 + b.1 * a.2).natAbs := red_le1 hd
  have n2 : (radd a b).2.natAbs ≤ (a.2 * b.2).natAbs := red_le2 hd
  have n3 := Int.natAbs_add_le (a.1 * b.2) (b.1 * a.2)
  omega
/-! ### extremes -/
def rlt (a b : QQ) : Bool := decide (a.1 * b.2 < b.1 * a.2)
theorem rlt_same {a b : QQ} (ha : Low a) (hb : Low b) (h1 : rlt a b = false) (h2 : rlt b a = false) : a = b := by
  have e1 : ¬ a.1 * b.2 < b.1 * a.2 := of_decide_eq_false h1
  have e2 : ¬ b.1 * a.2 < a.1 * b.2 := of_decide_eq_false h2
  obtain ⟨x, y⟩ := low_unique ha.1 hb.1 ha.2 hb.2 (by omega)
  exact Prod.ext x y
theorem rlt_irr {a : QQ} : rlt a a = false := decide_eq_false (by omega)
theorem rlt_trans' {a b c : QQ} (ha : 0 < a.2) (hb : 0 < b.2) (hc : 0 < c.2) (h1 : rlt a b = true) (h2 : rlt c b = false) : rlt a c = true := by
  have e1 : a.1 * b.2 < b.1 * a.2 := of_decide_eq_true h1
  have e2 : ¬ c.1 * b.2 < b.1 * c.2 := of_decide_eq_false h2
  refine decide_eq_true ?_
  have k1 : a.1 * b.2 * c.2 < b.1 * a.2 * c.2 := Int.mul_lt_mul_of_pos_right e1 hc
  have k2 : b.1 * c.2 * a.2 ≤ c.1 * b.2 * a.2 := Int.mul_le_mul_of_nonneg_right (by omega) (by omega)
  have k3 : a.1 * c.2 * b.2 < c.1 * a.2 * b.2 := by
    have q1 : a.1 * c.2 * b.2 = a.1 * b.2 * c.2 := by grind
    have q2 : c.1 * a.2 * b.2 = c.1 * b.2 * a.2 := by grind
    have q3 : b.1 * a.2 * c.2 = b.1 * c.2 * a.2 := by grind
    omega
  exact Int.lt_of_mul_lt_mul_right k3 (by omega)

def Frs (K : PySem.W.Frag) (H : Hp) (xs : List V) (fs : List QQ) (B : Nat) : Prop := xs.length = fs.length ∧ ∀ (i : Nat) x f, xs[i]? = some x → fs[i]? = some f → FrB K H x f.1 f.2 B
theorem Frs.same {K : PySem.W.Frag} {H H' : Hp} {xs : List V} {fs : List QQ} {B : Nat} (h : Frs K H xs fs B) (s : Same H H') : Frs K H' xs fs B := ⟨h.1, fun i x f a b => (h.2 i x f a b).same s⟩
theorem Frs.kp {K : PySem.W.Frag} {H H' : Hp} {r : Addr} {xs : List V} {fs : List QQ} {B : Nat} (h : Frs K H xs fs B) (R : Rg H r) (k : Kp r H H') : Frs K H' xs fs B := ⟨h.1, fun i x f a b => (h.2 i x f a b).kp R k⟩
theorem Frs.low {K : PySem.W.Frag} {H : Hp} {xs : List V} {fs : List QQ} {B : Nat} (h : Frs K H xs fs B) : ∀ f ∈ fs, Low f := fun f hf => by
  obtain ⟨i, hi, e⟩ := List.getElem_of_mem hf
  have hx : xs[i]? = some (xs[i]'(by rw [h.1]; exact hi)) := List.getElem?_eq_getElem _
  have z := h.2 i _ f hx (by rw [List.getElem?_eq_getElem hi, e])
  exact ⟨z.d0, z.g⟩
theorem Frs.at {K : PySem.W.Frag} {H : Hp} {xs : List V} {fs : List QQ} {B : Nat} (h : Frs K H xs fs B) {i : Nat} {x : V} (hx : xs[i]? = some x) : ∃ f, fs[i]? = some f ∧ FrB K H x f.1 f.2 B := by
  have hi : i < fs.length := by rw [← h.1]; exact (List.getElem?_eq_some_iff.mp hx).1
  exact ⟨fs[i], List.getElem?_eq_getElem hi, h.2 i x _ hx (List.getElem?_eq_getElem hi)⟩
def Sq (K : PySem.W.Frag) (H : Hp) (p : Addr) (xs : List V) : Prop := SqL K H p xs ∨ SqT K H p xs
theorem Sq.same {K : PySem.W.Frag} {H H' : Hp} {p : Addr} {xs : List V} (h : Sq K H p xs) (s : Same H H') : Sq K H' p xs := h.elim (fun z => .inl (s.seq z)) fun z => .inr (Same.T s z)
theorem FrB.up' {K : PySem.W.Frag} {H : Hp} {v : V} {n d : Int} {B C : Nat} (f : FrB K H v n d B) (h : B ≤ C) : FrB K H v n d C := ⟨f.fr, f.d0, f.g, Nat.lt_of_lt_of_le f.nB (Nat.pow_le_pow_right (by decide) h), Nat.lt_of_lt_of_le f.dB (Nat.pow_le_pow_right (by decide) h)⟩
theorem FrB.low {K : PySem.W.Frag} {H : Hp} {v : V} {f : QQ} {B : Nat} (h : FrB K H v f.1 f.2 B) : Low f := ⟨h.d0, h.g⟩
theorem FrB.add {K : PySem.W.Frag} {H : Hp} {v1 v2 : V} {a b : QQ} {A B : Nat} {p : Addr} (ha : FrB K H v1 a.1 a.2 A) (hb : FrB K H v2 b.1 b.2 B) : FrB K (upd H p (.tup [.int (radd a b).1, .int (radd a b).2])) (.ref p) (radd a b).1 (radd a b).2 (A + B + 1) := by
  have l := low_add ha.low hb.low
  have bd := add_bd ha.d0 hb.d0 ha.nB ha.dB hb.nB hb.dB
  exact ⟨Fr.new, l.1, l.2, bd.1, bd.2⟩
theorem mulW {a b : Int} {A : Nat} (ha : a.natAbs < 2 ^ A) (hb : b.natAbs < 2 ^ A) (h0 : 0 < A) (h1 : A ≤ 500000) : CMulW a b := wide_mul ha hb h0 h0 (by omega)
def spAdd (K : PySem.W.Frag) : Sp := fun vs H Q _ => ∃ (v1 v2 : V) (a b : QQ), vs = [v1, v2] ∧ FrB K H v1 a.1 a.2 3000 ∧ FrB K H v2 b.1 b.2 3000 ∧ ∀ p, H p = none → Q (.ref p) (upd H p (.tup [.int (radd a b).1, .int (radd a b).2]))
def spLess (K : PySem.W.Frag) : Sp := fun vs H Q _ => ∃ (v1 v2 : V) (a b : QQ), vs = [v1, v2] ∧ FrB K H v1 a.1 a.2 20000 ∧ FrB K H v2 b.1 b.2 20000 ∧ Q (.bl (rlt a b)) H
/-- the first place of the best by lt -/
def Fst (lt : QQ → QQ → Bool) (fs : List QQ) (j : Nat) : Prop := ∃ f, fs[j]? = some f ∧ (∀ (i : Nat) g, fs[i]? = some g → lt f g = false) ∧ ∀ (i : Nat) g, i < j → fs[i]? = some g → lt g f = true
abbrev FstMax (fs : List QQ) (j : Nat) : Prop := Fst rlt fs j
abbrev FstMin (fs : List QQ) (j : Nat) : Prop := Fst (fun a b => rlt b a) fs j
theorem rlt_asym {a b : QQ} (h : rlt a b = true) : rlt b a = false := by
  have e : a.1 * b.2 < b.1 * a.2 := of_decide_eq_true h
  exact decide_eq_false (by omega)
theorem rlt_le_lt {a b c : QQ} (ha : 0 < a.2) (hb : 0 < b.2) (hc : 0 < c.2) (h1 : rlt b a = false) (h2 : rlt b c = true) : rlt a c = true := by
  have e1 : ¬ b.1 * a.2 < a.1 * b.2 := of_decide_eq_false h1
  have e2 : b.1 * c.2 < c.1 * b.2 := of_decide_eq_true h2
  refine decide_eq_true ?_
  have k1 : b.1 * c.2 * a.2 < c.1 * b.2 * a.2 := Int.mul_lt_mul_of_pos_right e2 ha
  have k2 : a.1 * b.2 * c.2 ≤ b.1 * a.2 * c.2 := Int.mul_le_mul_of_nonneg_right (by omega) (by omega)
  have k3 : a.1 * c.2 * b.2 < c.1 * a.2 * b.2 := by
    have q1 : a.1 * c.2 * b.2 = a.1 * b.2 * c.2 := by grind
    have q2 : c.1 * a.2 * b.2 = c.1 * b.2 * a.2 := by grind
    have q3 : b.1 * a.2 * c.2 = b.1 * c.2 * a.2 := by grind
    omega
  exact Int.lt_of_mul_lt_mul_right k3 (by omega)
structure Ord (lt : QQ → QQ → Bool) : Prop where
  irr : ∀ a, lt a a = false
  lelt : ∀ a b c : QQ, 0 < a.2 → 0 < b.2 → 0 < c.2 → lt b a = false → lt b c = true → lt a c = true
  asym : ∀ a b, lt a b = true → lt b a = false
theorem ordMax : Ord rlt := ⟨fun _ => rlt_irr, fun _ _ _ ha hb hc h1 h2 => rlt_le_lt ha hb hc h1 h2, fun _ _ h => rlt_asym h⟩
theorem ordMin : Ord (fun a b => rlt b a) := ⟨fun _ => rlt_irr, fun _ _ _ ha hb hc h1 h2 => rlt_trans' hc hb ha h2 h1, fun _ _ h => rlt_asym h⟩
/-- between two turns: best so far among the first i -/
def Bst (lt : QQ → QQ → Bool) (fs : List QQ) (i j : Nat) : Prop := ∃ f, fs[j]? = some f ∧ (∀ (m : Nat) g, m < i → fs[m]? = some g → lt f g = false) ∧ ∀ (m : Nat) g, m < j → fs[m]? = some g → lt g f = true
theorem Bst.start {lt : QQ → QQ → Bool} {fs : List QQ} (h : 0 < fs.length) : Bst lt fs 0 0 := ⟨fs[0], List.getElem?_eq_getElem h, fun m g hm => absurd hm (by omega), fun m g hm => absurd hm (by omega)⟩
theorem Bst.keep {lt : QQ → QQ → Bool} {fs : List QQ} {i j : Nat} {f g : QQ} (b : Bst lt fs i j) (hf : fs[j]? = some f) (hg : fs[i]? = some g) (h : lt f g = false) : Bst lt fs (i + 1) j := by
  obtain ⟨f', e, k1, k2⟩ := b
  rw [hf] at e; cases e
  refine ⟨f, hf, fun m x hm hx => ?_, k2⟩
  by_cases z : m = i
  · subst z; rw [hg] at hx; cases hx; exact h
  · exact k1 m x (by omega) hx
theorem Bst.take {lt : QQ → QQ → Bool} {fs : List QQ} {i j : Nat} {f g : QQ} (O : Ord lt) (lo : ∀ f ∈ fs, Low f) (b : Bst lt fs i j) (hf : fs[j]? = some f) (hg : fs[i]? = some g) (h : lt f g = true) : Bst lt fs (i + 1) i := by
  obtain ⟨f', e, k1, k2⟩ := b
  rw [hf] at e; cases e
  have pf := (lo f (List.mem_of_getElem? hf)).1
  have pg := (lo g (List.mem_of_getElem? hg)).1
  have up : ∀ (m : Nat) x, m < i → fs[m]? = some x → lt x g = true := fun m x hm hx => O.lelt x f g (lo x (List.mem_of_getElem? hx)).1 pf pg (k1 m x hm hx) h
  refine ⟨g, hg, fun m x hm hx => ?_, up⟩
  by_cases z : m = i
  · subst z; rw [hg] at hx; cases hx; exact O.irr g
  · exact O.asym _ _ (up m x (by omega) hx)
theorem Bst.fst {lt : QQ → QQ → Bool} {fs : List QQ} {j : Nat} (b : Bst lt fs fs.length j) : Fst lt fs j := by
  obtain ⟨f, e, k1, k2⟩ := b
  exact ⟨f, e, fun m g hg => k1 m g (List.getElem?_eq_some_iff.mp hg).1 hg, k2⟩
theorem Bst.lt {lt : QQ → QQ → Bool} {fs : List QQ} {i j : Nat} (b : Bst lt fs i j) : j < fs.length := by
  obtain ⟨f, e, _⟩ := b
  exact (List.getElem?_eq_some_iff.mp e).1
theorem Frs.nil' {K : PySem.W.Frag} {H : Hp} {B : Nat} : Frs K H [] [] B := ⟨rfl, fun i x f h => by cases h⟩
theorem Frs.cons' {K : PySem.W.Frag} {H : Hp} {B : Nat} {x : V} {f : QQ} {xs : List V} {fs : List QQ} (h : FrB K H x f.1 f.2 B) (t : Frs K H xs fs B) : Frs K H (x :: xs) (f :: fs) B :=
  ⟨by rw [List.length_cons, List.length_cons, t.1], fun i y g a b => by
    cases i with
    | zero => cases a; cases b; exact h
    | succ i => exact t.2 i y g a b⟩
theorem Frs.uncons' {K : PySem.W.Frag} {H : Hp} {B : Nat} {x : V} {f : QQ} {xs : List V} {fs : List QQ} (t : Frs K H (x :: xs) (f :: fs) B) : FrB K H x f.1 f.2 B ∧ Frs K H xs fs B :=
  ⟨t.2 0 x f rfl rfl, by have := t.1; simpa using this, fun i y g a b => t.2 (i + 1) y g a b⟩
theorem Frs.app' {K : PySem.W.Frag} {H : Hp} {B : Nat} : ∀ {xs : List V} {fs : List QQ} {ys : List V} {gs : List QQ}, Frs K H xs fs B → Frs K H ys gs B → Frs K H (xs ++ ys) (fs ++ gs) B
  | [], [], _, _, _, b => b
  | [], _ :: _, _, _, a, _ => by have := a.1; cases this
  | _ :: _, [], _, _, a, _ => by have := a.1; cases this
  | x :: xs, f :: fs, ys, gs, a, b => Frs.cons' a.uncons'.1 (Frs.app' a.uncons'.2 b)
theorem FrB.put' {K : PySem.W.Frag} {H : Hp} {v : V} {n d : Int} {B : Nat} {D : Addr} {l l' : List V} (f : FrB K H v n d B) (hD : H D = some (.lst l)) : FrB K (upd H D (.lst l')) v n d B := by
  refine ⟨?_, f.d0, f.g, f.nB, f.dB⟩
  obtain ⟨p, rfl, h⟩ := f.fr
  refine ⟨p, rfl, ?_⟩
  rcases h with (h | ⟨o, h⟩) | h
  · exact .inl (.inl (by rw [upd_ne (ne_of h hD (fun z => by cases z))]; exact h))
  · exact .inl (.inr ⟨o, by rw [upd_ne (ne_of h hD (fun z => by cases z))]; exact h⟩)
  · exact .inr h
theorem Frs.put' {K : PySem.W.Frag} {H : Hp} {B : Nat} {D : Addr} {l l' : List V} {xs : List V} {fs : List QQ} (f : Frs K H xs fs B) (hD : H D = some (.lst l)) : Frs K (upd H D (.lst l')) xs fs B := ⟨f.1, fun i x g a b => (f.2 i x g a b).put' hD⟩
theorem Frs.one' {K : PySem.W.Frag} {H : Hp} {B : Nat} {x : V} {f : QQ} (h : FrB K H x f.1 f.2 B) : Frs K H [x] [f] B := Frs.cons' h Frs.nil'
def spSub (K : PySem.W.Frag) : Sp := fun vs H Q _ => ∃ (v1 v2 : V) (x y : QQ), vs = [v1, v2] ∧ FrB K H v1 x.1 x.2 3000 ∧ FrB K H v2 y.1 y.2 3000 ∧ ∀ r, H r = none → Q (.ref r) (upd H r (.tup [.int (red (x.1 * y.2 - y.1 * x.2) (x.2 * y.2)).1, .int (red (x.1 * y.2 - y.1 * x.2) (x.2 * y.2)).2]))
def spMul (K : PySem.W.Frag) : Sp := fun vs H Q _ => ∃ (v1 v2 : V) (x y : QQ), vs = [v1, v2] ∧ FrB K H v1 x.1 x.2 3000 ∧ FrB K H v2 y.1 y.2 3000 ∧ ∀ r, H r = none → Q (.ref r) (upd H r (.tup [.int (red (x.1 * y.1) (x.2 * y.2)).1, .int (red (x.1 * y.1) (x.2 * y.2)).2]))
def spDiv (K : PySem.W.Frag) : Sp := fun vs H Q _ => ∃ (v1 v2 : V) (x y : QQ), vs = [v1, v2] ∧ FrB K H v1 x.1 x.2 3000 ∧ FrB K H v2 y.1 y.2 3000 ∧ y.1 ≠ 0 ∧ ∀ r, H r = none → Q (.ref r) (upd H r (.tup [.int (red (x.1 * y.2) (x.2 * y.1)).1, .int (red (x.1 * y.2) (x.2 * y.1)).2]))
theorem ne_mul {i j : Int} (h : 0 < i) (k : j ≠ 0) : i * j ≠ 0 := fun z => by
  rcases Int.mul_eq_zero.mp z with z | z
  · omega
  · exact k z
/-! ### terms -/
inductive Kd where
  | delay (f : QQ) | max | min | median | mix (ws : List QQ)
inductive Tm where
  | ev (n : Str) : Tm
  | nd (k : Kd) (ts : List Tm) : Tm
def Tm.subs : Tm → List Tm
  | .ev _ => []
  | .nd _ ts => ts
mutual
def Tm.size : Tm → Nat
  | .ev _ => 1
  | .nd _ ts => 1 + Tm.sizes ts
def Tm.sizes : List Tm → Nat
  | [] => 0
  | t :: ts => t.size + Tm.sizes ts
end
mutual
def Tm.depth : Tm → Nat
  | .ev _ => 1
  | .nd _ ts => 1 + Tm.depths ts
def Tm.depths : List Tm → Nat
  | [] => 0
  | t :: ts => Nat.max t.depth (Tm.depths ts)
end
mutual
def Tm.flat : Tm → List Str
  | .ev s => [s]
  | .nd _ ts => Tm.flats ts
def Tm.flats : List Tm → List Str
  | [] => []
  | t :: ts => t.flat ++ Tm.flats ts
end
theorem Tm.size_eq (t : Tm) : t.size = 1 + Tm.sizes t.subs := by cases t <;> simp [Tm.size, Tm.subs, Tm.sizes]
theorem Tm.sizes_eq : ∀ ts : List Tm, Tm.sizes ts = (ts.map Tm.size).sum
  | [] => by simp [Tm.sizes]
  | t :: ts => by rw [Tm.sizes, Tm.sizes_eq ts, List.map_cons, List.sum_cons]
def All2 (R : V → Tm → Prop) (xs : List V) (ts : List Tm) : Prop := xs.length = ts.length ∧ ∀ (i : Nat) x t, xs[i]? = some x → ts[i]? = some t → R x t
theorem All2.mono {R S : V → Tm → Prop} {xs : List V} {ts : List Tm} (h : All2 R xs ts) (k : ∀ x t, R x t → S x t) : All2 S xs ts := ⟨h.1, fun i x t a b => k x t (h.2 i x t a b)⟩
theorem All2.nil {R : V → Tm → Prop} : All2 R [] [] := ⟨rfl, fun i x t h => by cases h⟩
theorem All2.snoc {R : V → Tm → Prop} {xs : List V} {ts : List Tm} {x : V} {t : Tm} (h : All2 R xs ts) (k : R x t) : All2 R (xs ++ [x]) (ts ++ [t]) := by
  refine ⟨by rw [List.length_append, List.length_append, h.1]; rfl, fun i y u a b => ?_⟩
  by_cases hi : i < xs.length
  · rw [List.getElem?_append_left hi] at a
    rw [List.getElem?_append_left (by rw [← h.1]; exact hi)] at b
    exact h.2 i y u a b
  · have e : i = xs.length := by
      have := (List.getElem?_eq_some_iff.mp a).1
      rw [List.length_append] at this
      have : i < xs.length + 1 := this
      omega
    subst e
    rw [List.getElem?_append_right (Nat.le_refl _), Nat.sub_self] at a
    rw [h.1, List.getElem?_append_right (Nat.le_refl _), Nat.sub_self] at b
    cases a; cases b
    exact k
theorem All2.one {R : V → Tm → Prop} {x : V} {t : Tm} (k : R x t) : All2 R [x] [t] := All2.nil.snoc k
theorem All2.at {R : V → Tm → Prop} {xs : List V} {ts : List Tm} (h : All2 R xs ts) {i : Nat} {x : V} (hx : xs[i]? = some x) : ∃ t, ts[i]? = some t ∧ R x t := by
  have l : i < ts.length := by rw [← h.1]; exact (List.getElem?_eq_some_iff.mp hx).1
  exact ⟨ts[i], List.getElem?_eq_getElem l, h.2 i x _ hx (List.getElem?_eq_getElem l)⟩
def kdS : Kd → Str
  | .delay _ => "delay" | .max => "max" | .min => "min" | .median => "median" | .mix _ => "mix"
/-- a tuple that stands for a term of the kind k over the values xs -/
def Node (K : PySem.W.Frag) (H : Hp) (v : V) : Kd → List V → Prop
  | .delay f, xs => ∃ p x fv, xs = [x] ∧ v = .ref p ∧ SqT K H p [.str "delay", x, fv] ∧ FrB K H fv f.1 f.2 40
  | .max, xs => ∃ p, v = .ref p ∧ SqT K H p (.str "max" :: xs)
  | .min, xs => ∃ p, v = .ref p ∧ SqT K H p (.str "min" :: xs)
  | .median, xs => ∃ p, v = .ref p ∧ SqT K H p (.str "median" :: xs)
  | .mix ws, xs => ∃ p ys, v = .ref p ∧ SqT K H p (.str "mix" :: ys) ∧ ys.length = xs.length ∧ ws.length = xs.length ∧ ∀ (i : Nat) y x f, ys[i]? = some y → xs[i]? = some x → ws[i]? = some f → ∃ q wv, y = .ref q ∧ SqT K H q [wv, x] ∧ FrB K H wv f.1 f.2 40
def TmAt (K : PySem.W.Frag) (H : Hp) : Nat → V → Tm → Prop
  | 0, _, _ => False
  | _ + 1, v, .ev s => ∃ p, v = .ref p ∧ SqT K H p [.str "event", .str s]
  | n + 1, v, .nd k ts => ∃ xs, Node K H v k xs ∧ All2 (TmAt K H n) xs ts
section
variable {K : PySem.W.Frag} {H H' : Hp}
theorem Node.imp (sT : ∀ p xs, SqT K H p xs → SqT K H' p xs) {v : V} {k : Kd} {xs : List V} (h : Node K H v k xs) : Node K H' v k xs := by
  have fb : ∀ {v n d B}, FrB K H v n d B → FrB K H' v n d B := fun f => ⟨by obtain ⟨p, e, z⟩ := f.fr; exact ⟨p, e, sT _ _ z⟩, f.d0, f.g, f.nB, f.dB⟩
  cases k with
  | delay f => obtain ⟨p, x, fv, e1, e2, h1, h2⟩ := h; exact ⟨p, x, fv, e1, e2, sT _ _ h1, fb h2⟩
  | max => obtain ⟨p, e, h1⟩ := h; exact ⟨p, e, sT _ _ h1⟩
  | min => obtain ⟨p, e, h1⟩ := h; exact ⟨p, e, sT _ _ h1⟩
  | median => obtain ⟨p, e, h1⟩ := h; exact ⟨p, e, sT _ _ h1⟩
  | mix ws =>
    obtain ⟨p, ys, e, h1, l1, l2, h2⟩ := h
    refine ⟨p, ys, e, sT _ _ h1, l1, l2, fun i y x f a b c => ?_⟩
    obtain ⟨q, wv, e', h3, h4⟩ := h2 i y x f a b c
    exact ⟨q, wv, e', sT _ _ h3, fb h4⟩
theorem TmAt.imp (sT : ∀ p xs, SqT K H p xs → SqT K H' p xs) : ∀ {n : Nat} {v : V} {t : Tm}, TmAt K H n v t → TmAt K H' n v t
  | 0, _, _, h => h
  | n + 1, v, .ev s, h => by obtain ⟨p, e, z⟩ := h; exact ⟨p, e, sT _ _ z⟩
  | n + 1, v, .nd k ts, h => by
    obtain ⟨xs, h1, h2⟩ := h
    exact ⟨xs, h1.imp sT, h2.mono fun x t z => TmAt.imp sT z⟩
theorem TmAt.same (s : Same H H') {n : Nat} {v : V} {t : Tm} (h : TmAt K H n v t) : TmAt K H' n v t := h.imp fun _ _ z => Same.T s z
theorem TmAt.kp {r : Addr} (R : Rg H r) (k : Kp r H H') {n : Nat} {v : V} {t : Tm} (h : TmAt K H n v t) : TmAt K H' n v t := h.imp fun _ _ z => RgT R k z
theorem TmAt.put {D : Addr} {l l' : List V} (hD : H D = some (.lst l)) {n : Nat} {v : V} {t : Tm} (h : TmAt K H n v t) : TmAt K (upd H D (.lst l')) n v t := h.imp fun p xs z => by
  rcases z with (z | ⟨o, z⟩) | z
  · exact .inl (.inl (by rw [upd_ne (ne_of z hD (fun y => by cases y))]; exact z))
  · exact .inl (.inr ⟨o, by rw [upd_ne (ne_of z hD (fun y => by cases y))]; exact z⟩)
  · exact .inr z
theorem TmAt.up : ∀ {n : Nat} {v : V} {t : Tm}, TmAt K H n v t → TmAt K H (n + 1) v t
  | 0, _, _, h => h.elim
  | n + 1, v, .ev s, h => h
  | n + 1, v, .nd k ts, h => by
    obtain ⟨xs, h1, h2⟩ := h
    exact ⟨xs, h1, h2.mono fun x t z => TmAt.up z⟩
theorem TmAt.le {n m : Nat} (l : n ≤ m) {v : V} {t : Tm} (h : TmAt K H n v t) : TmAt K H m v t := by
  induction l with
  | refl => exact h
  | step _ ih => exact ih.up
end
/-- what the law's terms have: names of the list, few operands, shares -/
def ShW (ws : List QQ) : Prop := ∃ is : List Int, (∀ i ∈ is, 1 ≤ i ∧ i ≤ 4) ∧ is.length ≤ 6 ∧ ws = is.map fun i => red i is.sum
def KdOk : Kd → Nat → Prop
  | .delay _, m => m = 1
  | .max, m => 1 ≤ m ∧ m ≤ 3
  | .min, m => 1 ≤ m ∧ m ≤ 3
  | .median, m => m = 3
  | .mix ws, m => 1 ≤ m ∧ m ≤ 3 ∧ ws.length = m ∧ ShW ws
def Good (ss : List Str) : Nat → Tm → Prop
  | 0, _ => False
  | _ + 1, .ev s => s ∈ ss
  | n + 1, .nd k ts => KdOk k ts.length ∧ ∀ t ∈ ts, Good ss n t
def szB : Nat → Nat
  | 0 => 0
  | n + 1 => 1 + 3 * szB n
theorem Good.up {ss : List Str} : ∀ {n : Nat} {t : Tm}, Good ss n t → Good ss (n + 1) t
  | 0, _, h => h.elim
  | n + 1, .ev s, h => h
  | n + 1, .nd k ts, h => ⟨h.1, fun t ht => (h.2 t ht).up⟩
theorem Good.le {ss : List Str} {n m : Nat} (l : n ≤ m) {t : Tm} (h : Good ss n t) : Good ss m t := by
  induction l with
  | refl => exact h
  | step _ ih => exact ih.up
theorem KdOk.three {k : Kd} {m : Nat} (h : KdOk k m) : m ≤ 3 := by
  cases k with
  | delay f => have : m = 1 := h; omega
  | max => exact h.2
  | min => exact h.2
  | median => exact Nat.le_of_eq h
  | mix ws => exact h.2.1
theorem sizes_le {B : Nat} : ∀ {ts : List Tm}, (∀ t ∈ ts, t.size ≤ B) → Tm.sizes ts ≤ ts.length * B
  | [], _ => by simp [Tm.sizes]
  | t :: ts, h => by
    rw [Tm.sizes, List.length_cons, Nat.add_mul, Nat.one_mul]
    have h1 := h t List.mem_cons_self
    have h2 := sizes_le (B := B) (ts := ts) fun u hu => h u (List.mem_cons_of_mem _ hu)
    omega
theorem Good.size {ss : List Str} : ∀ {n : Nat} {t : Tm}, Good ss n t → t.size ≤ szB n
  | 0, _, h => h.elim
  | n + 1, .ev s, _ => by simp [Tm.size, szB]
  | n + 1, .nd k ts, h => by
    have h1 := sizes_le (B := szB n) fun t ht => (h.2 t ht).size
    have h2 := Nat.mul_le_mul_right (szB n) h.1.three
    rw [Tm.size, szB]
    omega
theorem Tm.depth_eq (t : Tm) : t.depth = 1 + Tm.depths t.subs := by cases t <;> simp [Tm.depth, Tm.subs, Tm.depths]
theorem depths_ge : ∀ {ts : List Tm} {u : Tm}, u ∈ ts → u.depth ≤ Tm.depths ts
  | t :: ts, u, h => by
    rw [Tm.depths]
    rcases List.mem_cons.mp h with z | z
    · rw [z]; exact Nat.le_max_left _ _
    · exact Nat.le_trans (depths_ge z) (Nat.le_max_right _ _)
theorem depths_in : ∀ {ts : List Tm}, ts ≠ [] → ∃ u ∈ ts, Tm.depths ts = u.depth
  | [], h => absurd rfl h
  | t :: ts, _ => by
    rw [Tm.depths]
    by_cases q : ts = []
    · subst q
      exact ⟨t, List.mem_cons_self, by rw [Tm.depths]; exact Nat.max_eq_left (Nat.zero_le _)⟩
    · obtain ⟨u, hu, e⟩ := depths_in q
      by_cases c : Tm.depths ts ≤ t.depth
      · exact ⟨t, List.mem_cons_self, Nat.max_eq_left c⟩
      · exact ⟨u, List.mem_cons_of_mem _ hu, by rw [← e]; exact Nat.max_eq_right (by omega)⟩
theorem depths_max {ts : List Tm} {m : Int} (hm : m ∈ ts.map (fun u => (u.depth : Int))) (hk : ∀ k ∈ ts.map (fun u => (u.depth : Int)), k ≤ m) : (Tm.depths ts : Int) = m := by
  obtain ⟨u, hu, rfl⟩ := List.mem_map.mp hm
  have h1 := depths_ge hu
  obtain ⟨v, hv, e⟩ := depths_in (ts := ts) (fun z => by rw [z] at hu; cases hu)
  have h2 := hk _ (List.mem_map.mpr ⟨v, hv, rfl⟩)
  have h2' : (v.depth : Int) ≤ (u.depth : Int) := h2
  omega
def ArOk : Tm → Prop
  | .ev _ => True
  | .nd _ ts => 1 ≤ ts.length ∧ ts.length ≤ 60
theorem Good.ar {ss : List Str} {n : Nat} {t : Tm} (h : Good ss n t) : ArOk t := by
  cases n with
  | zero => exact h.elim
  | succ n =>
    cases t with
    | ev s => trivial
    | nd k ts =>
      have h3 := h.1.three
      refine ⟨?_, by omega⟩
      have hk := h.1
      cases k with
      | delay f => have : ts.length = 1 := hk; omega
      | max => exact hk.1
      | min => exact hk.1
      | median => have : ts.length = 3 := hk; omega
      | mix ws => exact hk.1
/-- the direct subterms, as a new list -/
def spSubs (K : PySem.W.Frag) : Sp := fun vs H Q _ => ∃ (v : V) (t : Tm) (n : Nat), vs = [v] ∧ TmAt K H (n + 1) v t ∧ ArOk t ∧ ∀ l H' xs, Same H H' → H l = none → H' l = some (.lst xs) → All2 (TmAt K H' n) xs t.subs → Q (.ref l) H'
theorem cut_one (x : V) (xs : List V) : cutV (x :: xs) (some 1) none = xs := by
  unfold cutV
  rw [show HT.sIx (x :: xs).length 0 (some 1) = min 1 (x :: xs).length from HT.sIx_nat (x :: xs).length 0 1, HT.sIx_none, List.length_cons, show min 1 (xs.length + 1) = 1 by omega]
  show List.take (xs.length + 1 - 1) xs = xs
  rw [Nat.add_sub_cancel, List.take_length]
theorem not_whole (x : V) (xs : List V) : ¬ (HT.sIx (x :: xs).length 0 (some 1) = 0 ∧ HT.sIx (x :: xs).length (x :: xs).length none = (x :: xs).length) := fun z => by
  have e : HT.sIx (x :: xs).length 0 (some 1) = min 1 (x :: xs).length := HT.sIx_nat (x :: xs).length 0 1
  rw [e, List.length_cons] at z
  have := z.1
  omega
theorem str_no {x y : Str} (h : decide (x = y) = false) : decide (V.str x = V.str y) = false := decide_eq_false fun z => of_decide_eq_false h (V.str.inj z)
/-- the pairs of a mix, walked: what is collected -/
theorem mix_at {K : PySem.W.Frag} {H : Hp} {ws : List QQ} {ys xs : List V} (l1 : ys.length = xs.length) (l2 : ws.length = xs.length) (h : ∀ (i : Nat) y x f, ys[i]? = some y → xs[i]? = some x → ws[i]? = some f → ∃ q wv, y = .ref q ∧ SqT K H q [wv, x] ∧ FrB K H wv f.1 f.2 40) {i : Nat} {y : V} (hy : ys[i]? = some y) :
    ∃ x q wv f, xs[i]? = some x ∧ ws[i]? = some f ∧ y = .ref q ∧ SqT K H q [wv, x] ∧ FrB K H wv f.1 f.2 40 := by
  have hi : i < ys.length := (List.getElem?_eq_some_iff.mp hy).1
  have a : xs[i]? = some (xs[i]'(by omega)) := List.getElem?_eq_getElem _
  have b : ws[i]? = some (ws[i]'(by omega)) := List.getElem?_eq_getElem _
  obtain ⟨q, wv, e, h1, h2⟩ := h i y _ _ hy a b
  exact ⟨_, q, wv, _, a, b, e, h1, h2⟩
def ArN : Nat → Tm → Prop
  | 0, _ => False
  | _ + 1, .ev _ => True
  | n + 1, .nd _ ts => (1 ≤ ts.length ∧ ts.length ≤ 60) ∧ ∀ t ∈ ts, ArN n t
theorem Good.arN {ss : List Str} : ∀ {n : Nat} {t : Tm}, Good ss n t → ArN n t
  | 0, _, h => h
  | n + 1, .ev s, h => trivial
  | n + 1, .nd k ts, h => ⟨Good.ar (n := n + 1) (t := .nd k ts) h, fun t ht => (h.2 t ht).arN⟩
theorem ArN.ok {n : Nat} {t : Tm} (h : ArN n t) : ArOk t := by
  cases n with
  | zero => exact h.elim
  | succ n => cases t with
    | ev s => trivial
    | nd k ts => exact h.1
theorem ArN.sub {n : Nat} {t u : Tm} (h : ArN (n + 1) t) (hu : u ∈ t.subs) : ArN n u := by
  cases t with
  | ev s => cases hu
  | nd k ts => exact h.2 u hu
theorem ArN.len {n : Nat} {t : Tm} (h : ArN n t) : t.subs.length ≤ 60 := by
  cases n with
  | zero => exact h.elim
  | succ n => cases t with
    | ev s => exact Nat.zero_le _
    | nd k ts => exact h.1.2
def spSize (K : PySem.W.Frag) : Nat → Sp
  | 0 => fun _ _ _ _ => False
  | n + 1 => fun vs H Q _ => ∃ (v : V) (t : Tm), vs = [v] ∧ TmAt K H (n + 1) v t ∧ ArN (n + 1) t ∧ ∀ H', Same H H' → Q (.int (t.size : Nat)) H'
def spDepth (K : PySem.W.Frag) : Nat → Sp
  | 0 => fun _ _ _ _ => False
  | n + 1 => fun vs H Q _ => ∃ (v : V) (t : Tm), vs = [v] ∧ TmAt K H (n + 1) v t ∧ ArN (n + 1) t ∧ ∀ H', Same H H' → Q (.int (t.depth : Nat)) H'
/-! ### names in order of first occurrence -/
def addS (acc : List Str) (s : Str) : List Str := if s ∈ acc then acc else acc ++ [s]
def ded (l : List Str) : List Str := l.foldl addS []
theorem add_mem {acc : List Str} {s x : Str} : x ∈ addS acc s ↔ x ∈ acc ∨ x = s := by
  unfold addS
  by_cases h : s ∈ acc
  · rw [if_pos h]
    exact ⟨.inl, fun z => z.elim id fun e => by rw [e]; exact h⟩
  · rw [if_neg h, List.mem_append, List.mem_singleton]
theorem fold_mem : ∀ {l acc : List Str} {x : Str}, x ∈ l.foldl addS acc ↔ x ∈ acc ∨ x ∈ l
  | [], acc, x => by simp
  | s :: l, acc, x => by
    rw [List.foldl_cons, fold_mem (l := l), add_mem, List.mem_cons]
    constructor
    · rintro ((h | h) | h)
      · exact .inl h
      · exact .inr (.inl h)
      · exact .inr (.inr h)
    · rintro (h | h | h)
      · exact .inl (.inl h)
      · exact .inl (.inr h)
      · exact .inr h
theorem add_old {acc : List Str} {s : Str} (h : s ∈ acc) : addS acc s = acc := if_pos h
theorem add_new {acc : List Str} {s : Str} (h : s ∉ acc) : addS acc s = acc ++ [s] := if_neg h
/-- folding the first occurrences in is folding all in -/
theorem fold_ded : ∀ (l m acc : List Str), (l.foldl addS m).foldl addS acc = l.foldl addS (m.foldl addS acc)
  | [], _, _ => rfl
  | s :: l, m, acc => by
    rw [List.foldl_cons, List.foldl_cons, fold_ded l (addS m s) acc]
    congr 1
    by_cases h : s ∈ m
    · rw [add_old h, add_old (fold_mem.mpr (.inr h))]
    · rw [add_new h, List.foldl_append]
      rfl
theorem ded_into (l acc : List Str) : (ded l).foldl addS acc = l.foldl addS acc := fold_ded l [] acc
theorem in_strs (s : Str) (acc : List Str) : inV (.str s) (acc.map V.str) = decide (s ∈ acc) := by
  unfold inV
  rw [List.any_map]
  by_cases h : s ∈ acc
  · rw [decide_eq_true h]
    exact List.any_eq_true.mpr ⟨s, h, by show (s == s) = true; simp⟩
  · rw [decide_eq_false h]
    refine Bool.eq_false_iff.mpr fun z => ?_
    obtain ⟨y, hy, e⟩ := List.any_eq_true.mp z
    have e' : (y == s) = true := e
    rw [beq_iff_eq] at e'
    exact h (e' ▸ hy)
theorem flat_strs (l : List Str) : (l.map V.str).all flatV = true := by
  rw [List.all_map]
  exact List.all_eq_true.mpr fun _ _ => rfl
theorem flats_take {ts : List Tm} {i : Nat} {u : Tm} (h : ts[i]? = some u) : Tm.flats (ts.take (i + 1)) = Tm.flats (ts.take i) ++ u.flat := by
  have app : ∀ a b : List Tm, Tm.flats (a ++ b) = Tm.flats a ++ Tm.flats b := by
    intro a b
    induction a with
    | nil => rfl
    | cons x a ih => rw [List.cons_append, Tm.flats, Tm.flats, ih, List.append_assoc]
  rw [List.take_add_one, h, app]
  show _ ++ Tm.flats [u] = _
  rw [Tm.flats, Tm.flats, List.append_nil]
theorem ded_app (a b : List Str) : ded (a ++ b) = b.foldl addS (ded a) := List.foldl_append ..
theorem ded_len : ∀ (l acc : List Str), (l.foldl addS acc).length ≤ acc.length + l.length
  | [], acc => Nat.le_refl _
  | s :: l, acc => by
    have h := ded_len l (addS acc s)
    have h2 : (addS acc s).length ≤ acc.length + 1 := by
      unfold addS
      split
      · omega
      · rw [List.length_append]; exact Nat.le_refl _
    rw [List.foldl_cons, List.length_cons]
    omega
def spNames (K : PySem.W.Frag) : Nat → Sp
  | 0 => fun _ _ _ _ => False
  | n + 1 => fun vs H Q _ => ∃ (v : V) (t : Tm), vs = [v] ∧ TmAt K H (n + 1) v t ∧ ArN (n + 1) t ∧ t.flat.length ≤ 1000 ∧ ∀ l H', Same H H' → H l = none → H' l = some (.lst ((ded t.flat).map V.str)) → Q (.ref l) H'
mutual
theorem flat_size : ∀ t : Tm, t.flat.length ≤ t.size
  | .ev s => by rw [Tm.flat, Tm.size]; exact Nat.le_refl _
  | .nd k ts => by
    rw [Tm.flat, Tm.size]
    have := flats_size ts
    omega
theorem flats_size : ∀ ts : List Tm, (Tm.flats ts).length ≤ Tm.sizes ts
  | [] => by rw [Tm.flats, Tm.sizes]; exact Nat.le_refl _
  | t :: ts => by
    rw [Tm.flats, Tm.sizes, List.length_append]
    have := flat_size t
    have := flats_size ts
    omega
end

def topS (i : Nat) : Stmt := PySem.Challenge.pw_gaithold_k08_term_structure.main.body.getD i (.Pass ⟨0, 0, 0, 0⟩)
abbrev s_p_subterms : Stmt := topS 1
theorem sc_p_subterms : FnScope ["term", "kind", "pair"] ["term"] (defScope s_p_subterms) := ⟨rfl, rfl, rfl, by decide +kernel, rfl, by decide +kernel, by decide +kernel⟩
abbrev s_p_term_size : Stmt := topS 2
theorem sc_p_term_size : FnScope ["term", "part"] ["term"] (defScope s_p_term_size) := ⟨rfl, rfl, rfl, by decide +kernel, rfl, by decide +kernel, by decide +kernel⟩
abbrev s_p_term_depth : Stmt := topS 3
theorem sc_p_term_depth : FnScope ["term", "part"] ["term"] (defScope s_p_term_depth) := ⟨rfl, rfl, rfl, by decide +kernel, rfl, by decide +kernel, by decide +kernel⟩
abbrev s_p_event_names : Stmt := topS 4
theorem sc_p_event_names : FnScope ["term", "names", "part", "name"] ["term"] (defScope s_p_event_names) := ⟨rfl, rfl, rfl, by decide +kernel, rfl, by decide +kernel, by decide +kernel⟩
abbrev s_l_source : Stmt := topS 6
theorem sc_l_source : FnScope ["_law_script", "_law_knot", "_law_cell"] ["_law_script"] (defScope s_l_source) := ⟨rfl, rfl, rfl, by decide +kernel, rfl, by decide +kernel, by decide +kernel⟩
abbrev s_l_draw : Stmt := topS 7
theorem sc_l_draw : FnScope ["_law_rng", "_law_quantity", "_law_cell", "_law_got", "_law_seed"] ["_law_rng", "_law_quantity"] (defScope s_l_draw) := ⟨rfl, rfl, rfl, by decide +kernel, rfl, by decide +kernel, by decide +kernel⟩
abbrev s_l_choice : Stmt := topS 8
theorem sc_l_choice : FnScope ["_law_rng", "_law_some"] ["_law_rng", "_law_some"] (defScope s_l_choice) := ⟨rfl, rfl, rfl, by decide +kernel, rfl, by decide +kernel, by decide +kernel⟩
abbrev s_l_equal : Stmt := topS 9
theorem sc_l_equal : FnScope ["_law_result", "_law_expected", "_law_one", "_law_other"] ["_law_result", "_law_expected"] (defScope s_l_equal) := ⟨rfl, rfl, rfl, by decide +kernel, rfl, by decide +kernel, by decide +kernel⟩
abbrev s_l_reduce : Stmt := topS 10
theorem sc_l_reduce : FnScope ["_law_num", "_law_den", "_law_one", "_law_other", "_law_sign"] ["_law_num", "_law_den"] (defScope s_l_reduce) := ⟨rfl, rfl, rfl, by decide +kernel, rfl, by decide +kernel, by decide +kernel⟩
abbrev s_l_small : Stmt := topS 11
theorem sc_l_small : FnScope ["_law_rng"] ["_law_rng"] (defScope s_l_small) := ⟨rfl, rfl, rfl, by decide +kernel, rfl, by decide +kernel, by decide +kernel⟩
abbrev s_l_letters : Stmt := topS 12
theorem sc_l_letters : FnScope [] [] (defScope s_l_letters) := ⟨rfl, rfl, rfl, by decide +kernel, rfl, by decide +kernel, by decide +kernel⟩
abbrev s_l_is_name : Stmt := topS 13
theorem sc_l_is_name : FnScope ["_law_text", "_law_sign"] ["_law_text"] (defScope s_l_is_name) := ⟨rfl, rfl, rfl, by decide +kernel, rfl, by decide +kernel, by decide +kernel⟩
abbrev s_l_plain : Stmt := topS 14
theorem sc_l_plain : FnScope ["_law_names_here", "_law_name"] ["_law_names_here"] (defScope s_l_plain) := ⟨rfl, rfl, rfl, by decide +kernel, rfl, by decide +kernel, by decide +kernel⟩
abbrev s_l_names : Stmt := topS 15
theorem sc_l_names : FnScope ["_law_rng", "_law_quantity", "_law_abc", "_law_width", "_law_pos", "_law_lead", "_law_step", "_law_base", "_law_result", "_law_k", "_law_sign", "_law_name", "_law_cut", "_law_spare"] ["_law_rng", "_law_quantity"] (defScope s_l_names) := ⟨rfl, rfl, rfl, by decide +kernel, rfl, by decide +kernel, by decide +kernel⟩
abbrev s_l_operands : Stmt := topS 16
theorem sc_l_operands : FnScope ["_law_term_here", "_law_share", "_law_one"] ["_law_term_here"] (defScope s_l_operands) := ⟨rfl, rfl, rfl, by decide +kernel, rfl, by decide +kernel, by decide +kernel⟩
abbrev s_l_size : Stmt := topS 17
theorem sc_l_size : FnScope ["_law_term_here", "_law_one"] ["_law_term_here"] (defScope s_l_size) := ⟨rfl, rfl, rfl, by decide +kernel, rfl, by decide +kernel, by decide +kernel⟩
abbrev s_l_depth : Stmt := topS 18
theorem sc_l_depth : FnScope ["_law_term_here", "_law_one"] ["_law_term_here"] (defScope s_l_depth) := ⟨rfl, rfl, rfl, by decide +kernel, rfl, by decide +kernel, by decide +kernel⟩
abbrev s_l_shares : Stmt := topS 19
theorem sc_l_shares : FnScope ["_law_rng", "_law_quantity", "_law_weights", "_law_k", "_law_one"] ["_law_rng", "_law_quantity"] (defScope s_l_shares) := ⟨rfl, rfl, rfl, by decide +kernel, rfl, by decide +kernel, by decide +kernel⟩
abbrev s_l_term : Stmt := topS 20
theorem sc_l_term : FnScope ["_law_rng", "_law_names_here", "_law_deep", "_law_pick", "_law_quantity", "_law_parts", "_law_k", "_law_share", "_law_one"] ["_law_rng", "_law_names_here", "_law_deep"] (defScope s_l_term) := ⟨rfl, rfl, rfl, by decide +kernel, rfl, by decide +kernel, by decide +kernel⟩
abbrev s_l_event_names : Stmt := topS 21
theorem sc_l_event_names : FnScope ["_law_term_here", "_law_result", "_law_todo", "_law_step", "_law_one"] ["_law_term_here"] (defScope s_l_event_names) := ⟨rfl, rfl, rfl, by decide +kernel, rfl, by decide +kernel, by decide +kernel⟩
abbrev s_p_law : Stmt := topS 22
theorem sc_p_law : FnScope ["_law_script", "_law_rng", "_law_turn", "_law_term_here", "_law_again", "_law_result"] ["_law_script"] (defScope s_p_law) := ⟨rfl, rfl, rfl, by decide +kernel, rfl, by decide +kernel, by decide +kernel⟩
structure Ad where
  f_p_subterms : Addr
  fd_p_subterms : FuncData
  f_p_term_size : Addr
  fd_p_term_size : FuncData
  f_p_term_depth : Addr
  fd_p_term_depth : FuncData
  f_p_event_names : Addr
  fd_p_event_names : FuncData
  f_l_source : Addr
  fd_l_source : FuncData
  f_l_draw : Addr
  fd_l_draw : FuncData
  f_l_choice : Addr
  fd_l_choice : FuncData
  f_l_equal : Addr
  fd_l_equal : FuncData
  f_l_reduce : Addr
  fd_l_reduce : FuncData
  f_l_small : Addr
  fd_l_small : FuncData
  f_l_letters : Addr
  fd_l_letters : FuncData
  f_l_is_name : Addr
  fd_l_is_name : FuncData
  f_l_plain : Addr
  fd_l_plain : FuncData
  f_l_names : Addr
  fd_l_names : FuncData
  f_l_operands : Addr
  fd_l_operands : FuncData
  f_l_size : Addr
  fd_l_size : FuncData
  f_l_depth : Addr
  fd_l_depth : FuncData
  f_l_shares : Addr
  fd_l_shares : FuncData
  f_l_term : Addr
  fd_l_term : FuncData
  f_l_event_names : Addr
  fd_l_event_names : FuncData
  f_p_law : Addr
  fd_p_law : FuncData
structure Txt (K : PySem.W.Frag) (mg : Str → Option Value) (a : Ad) : Prop where
  g_p_subterms : mg "subterms" = some (.ref a.f_p_subterms)
  F_p_subterms : Fun K "subterms" "subterms" s_p_subterms a.f_p_subterms a.fd_p_subterms
  b_p_subterms : Binds K a.fd_p_subterms ["term"] []
  g_p_term_size : mg "term_size" = some (.ref a.f_p_term_size)
  F_p_term_size : Fun K "term_size" "term_size" s_p_term_size a.f_p_term_size a.fd_p_term_size
  b_p_term_size : Binds K a.fd_p_term_size ["term"] []
  g_p_term_depth : mg "term_depth" = some (.ref a.f_p_term_depth)
  F_p_term_depth : Fun K "term_depth" "term_depth" s_p_term_depth a.f_p_term_depth a.fd_p_term_depth
  b_p_term_depth : Binds K a.fd_p_term_depth ["term"] []
  g_p_event_names : mg "event_names" = some (.ref a.f_p_event_names)
  F_p_event_names : Fun K "event_names" "event_names" s_p_event_names a.f_p_event_names a.fd_p_event_names
  b_p_event_names : Binds K a.fd_p_event_names ["term"] []
  g_l_source : mg "_law_source" = some (.ref a.f_l_source)
  F_l_source : Fun K "_law_source" "_law_source" s_l_source a.f_l_source a.fd_l_source
  b_l_source : Binds K a.fd_l_source ["_law_script"] []
  g_l_draw : mg "_law_draw" = some (.ref a.f_l_draw)
  F_l_draw : Fun K "_law_draw" "_law_draw" s_l_draw a.f_l_draw a.fd_l_draw
  b_l_draw : Binds K a.fd_l_draw ["_law_rng", "_law_quantity"] []
  g_l_choice : mg "_law_choice" = some (.ref a.f_l_choice)
  F_l_choice : Fun K "_law_choice" "_law_choice" s_l_choice a.f_l_choice a.fd_l_choice
  b_l_choice : Binds K a.fd_l_choice ["_law_rng", "_law_some"] []
  g_l_equal : mg "_law_equal" = some (.ref a.f_l_equal)
  F_l_equal : Fun K "_law_equal" "_law_equal" s_l_equal a.f_l_equal a.fd_l_equal
  b_l_equal : Binds K a.fd_l_equal ["_law_result", "_law_expected"] []
  g_l_reduce : mg "_law_reduce" = some (.ref a.f_l_reduce)
  F_l_reduce : Fun K "_law_reduce" "_law_reduce" s_l_reduce a.f_l_reduce a.fd_l_reduce
  b_l_reduce : Binds K a.fd_l_reduce ["_law_num", "_law_den"] []
  g_l_small : mg "_law_small" = some (.ref a.f_l_small)
  F_l_small : Fun K "_law_small" "_law_small" s_l_small a.f_l_small a.fd_l_small
  b_l_small : Binds K a.fd_l_small ["_law_rng"] []
  g_l_letters : mg "_law_letters" = some (.ref a.f_l_letters)
  F_l_letters : Fun K "_law_letters" "_law_letters" s_l_letters a.f_l_letters a.fd_l_letters
  b_l_letters : Binds K a.fd_l_letters [] []
  g_l_is_name : mg "_law_is_name" = some (.ref a.f_l_is_name)
  F_l_is_name : Fun K "_law_is_name" "_law_is_name" s_l_is_name a.f_l_is_name a.fd_l_is_name
  b_l_is_name : Binds K a.fd_l_is_name ["_law_text"] []
  g_l_plain : mg "_law_plain" = some (.ref a.f_l_plain)
  F_l_plain : Fun K "_law_plain" "_law_plain" s_l_plain a.f_l_plain a.fd_l_plain
  b_l_plain : Binds K a.fd_l_plain ["_law_names_here"] []
  g_l_names : mg "_law_names" = some (.ref a.f_l_names)
  F_l_names : Fun K "_law_names" "_law_names" s_l_names a.f_l_names a.fd_l_names
  b_l_names : Binds K a.fd_l_names ["_law_rng", "_law_quantity"] []
  g_l_operands : mg "_law_operands" = some (.ref a.f_l_operands)
  F_l_operands : Fun K "_law_operands" "_law_operands" s_l_operands a.f_l_operands a.fd_l_operands
  b_l_operands : Binds K a.fd_l_operands ["_law_term_here"] []
  g_l_size : mg "_law_size" = some (.ref a.f_l_size)
  F_l_size : Fun K "_law_size" "_law_size" s_l_size a.f_l_size a.fd_l_size
  b_l_size : Binds K a.fd_l_size ["_law_term_here"] []
  g_l_depth : mg "_law_depth" = some (.ref a.f_l_depth)
  F_l_depth : Fun K "_law_depth" "_law_depth" s_l_depth a.f_l_depth a.fd_l_depth
  b_l_depth : Binds K a.fd_l_depth ["_law_term_here"] []
  g_l_shares : mg "_law_shares" = some (.ref a.f_l_shares)
  F_l_shares : Fun K "_law_shares" "_law_shares" s_l_shares a.f_l_shares a.fd_l_shares
  b_l_shares : Binds K a.fd_l_shares ["_law_rng", "_law_quantity"] []
  g_l_term : mg "_law_term" = some (.ref a.f_l_term)
  F_l_term : Fun K "_law_term" "_law_term" s_l_term a.f_l_term a.fd_l_term
  b_l_term : Binds K a.fd_l_term ["_law_rng", "_law_names_here", "_law_deep"] []
  g_l_event_names : mg "_law_event_names" = some (.ref a.f_l_event_names)
  F_l_event_names : Fun K "_law_event_names" "_law_event_names" s_l_event_names a.f_l_event_names a.fd_l_event_names
  b_l_event_names : Binds K a.fd_l_event_names ["_law_term_here"] []
  g_p_law : mg "law" = some (.ref a.f_p_law)
  F_p_law : Fun K "law" "law" s_p_law a.f_p_law a.fd_p_law
  b_p_law : Binds K a.fd_p_law ["_law_script"] []
  n_list : mg "list" = none
  n_sum : mg "sum" = none
  n_max : mg "max" = none
  n_len : mg "len" = none
  n_isinstance : mg "isinstance" = none
  n_tuple : mg "tuple" = none
  n_all : mg "all" = none
  n_bool : mg "bool" = none
  n_int : mg "int" = none
  n_str : mg "str" = none
  n_zip : mg "zip" = none
  n_abs : mg "abs" = none
  n_set : mg "set" = none
  n_range : mg "range" = none

section
variable {P : Program} {w : World} {K : PySem.W.Frag} {mg : Str → Option Value} {base : Heap} {a : Ad}
def sp_p_subterms (K : PySem.W.Frag) : Sp := spSubs K

theorem ok_p_subterms (T : Txt K mg a) : FnOk P w K mg base CX0 1 a.f_p_subterms a.fd_p_subterms ["term"] (sp_p_subterms K) := by
  refine T.F_p_subterms.ok sc_p_subterms (fun vs H Q E h => ?_) (fun cdv A outer s H vs Q E hr h => ?_)
  · obtain ⟨v, t, n, rfl, _⟩ := h
    rfl
  · obtain ⟨v, t, n, rfl, ht, ar, w⟩ := h
    refine ⟨_, (pss_cons (ps_set (i := 1) sc_p_subterms.nd rfl (by first | exact Or.inl rfl | exact Or.inr rfl) (pe_ix ix_tup (pv 0) pe_int (fun _ _ => rfl)))
          (pss_cons (ps_if (pt_cmpR op_eq (pv 1) pe_str (nomark _)) (pss_one (ps_ret (pe_lst pa_nil))) pss_nil)
          (pss_cons (ps_if (pt_cmpR op_eq (pv 1) pe_str (nomark _)) (pss_one (ps_ret (pe_lst (pa_cons (pe_ix ix_tup (pv 0) pe_int (fun _ _ => rfl)) pa_nil)))) pss_nil)
          (pss_cons (ps_if (pt_cmpR op_eq (pv 1) pe_str (nomark _)) (pss_one (ps_ret (pe_lc (own := [("pair", 2)]) (g := gName 2) rfl sc_p_subterms.nd (pi_tup (pe_slice sl_tup (pv 0) (po_some pe_int) po_none)) (blkOk_by (own := [("pair", 2)]) (N := ["term", "kind", "pair"]) (sc := defScope s_p_subterms) (by decide +kernel)) (fun _ _ _ _ _ => (pg_name (i := 2) sc_p_subterms.nd rfl (Or.inl rfl))) (fun _ _ _ _ _ => pts_nil) (fun _ _ _ _ _ => (pe_ix (ixT (K := K) rfl) (pv 2) pe_int (fun _ _ => rfl)))))) pss_nil)
          (pss_one (ps_ret (pe_callTy call_list_of (by rfl) T.n_list (by decide +kernel) (pa_cons (pe_slice sl_tup (pv 0) (po_some pe_int) po_none) pa_nil)))))))), ?_⟩
    cases t with
    | ev s =>
      obtain ⟨p, rfl, hp⟩ := ht
      refine ⟨.ref p, rfl, p, _, 0, _, rfl, rfl, hp, atI_nat (j := 0) rfl, ?_⟩
      refine ⟨.str "event", rfl, rfl, _, rfl, ifT (decide_eq_true rfl) ?_⟩
      exact ⟨sz (by show 0 ≤ 100000; decide), fun l nl => w l _ [] (Same.new nl) nl upd_same All2.nil⟩
    | nd k ts =>
      obtain ⟨xs, hN, hA⟩ := ht
      have hlen := hA.1
      have ar1 : 1 ≤ ts.length := ar.1
      have ar2 : ts.length ≤ 60 := ar.2
      cases k with
      | delay f =>
        obtain ⟨p, x, fv, rfl, rfl, hp, _⟩ := hN
        refine ⟨.ref p, rfl, p, _, 0, _, rfl, rfl, hp, atI_nat (j := 0) rfl, ?_⟩
        refine ⟨.str "delay", rfl, rfl, _, rfl, ifF (str_no (by decide +kernel)) ⟨.str "delay", rfl, rfl, _, rfl, ifT (decide_eq_true rfl) ?_⟩⟩
        exact ⟨.ref p, rfl, p, _, 1, _, rfl, rfl, hp, rfl, sz (by show 1 ≤ 100000; decide), fun l nl => w l _ [x] (Same.new nl) nl upd_same (hA.mono fun _ _ z => z.same (Same.new nl))⟩
      | mix ws =>
        obtain ⟨p, ys, rfl, hp, l1, l2, hm⟩ := hN
        refine ⟨.ref p, rfl, p, _, 0, _, rfl, rfl, hp, atI_nat (j := 0) rfl, ?_⟩
        refine ⟨.str "mix", rfl, rfl, _, rfl, ifF (str_no (by decide +kernel)) ⟨.str "mix", rfl, rfl, _, rfl, ifF (str_no (by decide +kernel)) ⟨.str "mix", rfl, rfl, _, rfl, ifT (decide_eq_true rfl) ?_⟩⟩⟩
        refine ⟨.ref p, rfl, 1, rfl, p, _, rfl, hp, not_whole _ _, fun c nc => ?_⟩
        rw [cut_one]
        have sc := Same.new (o := .tup ys) nc
        refine ⟨c, rfl, ⟨_, SqT.of upd_same⟩, fun D nD => ?_⟩
        have nD0 : H D = none := sc.free nD
        have cD : c ≠ D := ne_of_none upd_same nD
        refine lc_tup (K := K) (a := c) (xs := ys) (fun i H1 => Same H H1 ∧ H1 c = some (.tup ys) ∧ H1 D = some (.lst (xs.take i))) ⟨sc.trans (Same.new nD), by rw [upd_ne cD]; exact upd_same, upd_same⟩ (fun i H1 _ h1 => SqT.of h1.2.1) ?_ ?_
        · rintro i y H1 hy ⟨s1, hc, hD⟩
          obtain ⟨x, q, wv, f, hx, hf, rfl, hq, _⟩ := mix_at l1 l2 hm hy
          have hq1 := Same.T s1 hq
          refine ⟨rfl, tYes_if ?_⟩
          refine ⟨.ref q, rfl, q, _, 1, _, rfl, rfl, hq1, rfl, ?_⟩
          refine ⟨_, hD, ?_, fun b o e => ?_, ?_, ?_⟩
          · rw [List.length_take]; exact szl (by omega)
          · rw [upd_ne (ne_of_none e nD0)]; exact s1 _ _ e
          · rw [upd_ne cD]; exact hc
          · rw [upd_same, List.take_add_one, hx]; rfl
        · rintro H1 ⟨s1, hc, hD⟩
          rw [show ys.length = xs.length from l1, List.take_length] at hD
          exact w D H1 xs s1 nD0 hD (hA.mono fun _ _ z => z.same s1)
      | max =>
        obtain ⟨p, rfl, hp⟩ := hN
        refine ⟨.ref p, rfl, p, _, 0, _, rfl, rfl, hp, atI_nat (j := 0) rfl, ?_⟩
        refine ⟨.str "max", rfl, rfl, _, rfl, ifF (str_no (by decide +kernel)) ⟨.str "max", rfl, rfl, _, rfl, ifF (str_no (by decide +kernel)) ⟨.str "max", rfl, rfl, _, rfl, ifF (str_no (by decide +kernel)) ?_⟩⟩⟩
        refine ⟨.ref p, rfl, 1, rfl, p, _, rfl, hp, not_whole _ _, fun c nc => ?_⟩
        rw [cut_one]
        have sc := Same.new (o := .tup xs) nc
        refine ⟨c, xs, rfl, .inr (SqT.of upd_same), fun l nl => ?_⟩
        have s2 := sc.trans (Same.new (o := .lst xs) nl)
        exact w l _ xs s2 (sc.free nl) upd_same (hA.mono fun _ _ z => z.same s2)
      | min =>
        obtain ⟨p, rfl, hp⟩ := hN
        refine ⟨.ref p, rfl, p, _, 0, _, rfl, rfl, hp, atI_nat (j := 0) rfl, ?_⟩
        refine ⟨.str "min", rfl, rfl, _, rfl, ifF (str_no (by decide +kernel)) ⟨.str "min", rfl, rfl, _, rfl, ifF (str_no (by decide +kernel)) ⟨.str "min", rfl, rfl, _, rfl, ifF (str_no (by decide +kernel)) ?_⟩⟩⟩
        refine ⟨.ref p, rfl, 1, rfl, p, _, rfl, hp, not_whole _ _, fun c nc => ?_⟩
        rw [cut_one]
        have sc := Same.new (o := .tup xs) nc
        refine ⟨c, xs, rfl, .inr (SqT.of upd_same), fun l nl => ?_⟩
        have s2 := sc.trans (Same.new (o := .lst xs) nl)
        exact w l _ xs s2 (sc.free nl) upd_same (hA.mono fun _ _ z => z.same s2)
      | median =>
        obtain ⟨p, rfl, hp⟩ := hN
        refine ⟨.ref p, rfl, p, _, 0, _, rfl, rfl, hp, atI_nat (j := 0) rfl, ?_⟩
        refine ⟨.str "median", rfl, rfl, _, rfl, ifF (str_no (by decide +kernel)) ⟨.str "median", rfl, rfl, _, rfl, ifF (str_no (by decide +kernel)) ⟨.str "median", rfl, rfl, _, rfl, ifF (str_no (by decide +kernel)) ?_⟩⟩⟩
        refine ⟨.ref p, rfl, 1, rfl, p, _, rfl, hp, not_whole _ _, fun c nc => ?_⟩
        rw [cut_one]
        have sc := Same.new (o := .tup xs) nc
        refine ⟨c, xs, rfl, .inr (SqT.of upd_same), fun l nl => ?_⟩
        have s2 := sc.trans (Same.new (o := .lst xs) nl)
        exact w l _ xs s2 (sc.free nl) upd_same (hA.mono fun _ _ z => z.same s2)
end
section
variable {P : Program} {w : World} {K : PySem.W.Frag} {mg : Str → Option Value} {base : Heap} {a : Ad}
def sp_p_term_size (K : PySem.W.Frag) : Sp := spSize K 12

theorem ok_p_term_size_n (T : Txt K mg a) : ∀ n, FnOk P w K mg base CX0 (n + 1) a.f_p_term_size a.fd_p_term_size ["term"] (spSize K n)
  | 0 => fn_false
  | n + 1 => by
    have G_p_subterms := ok_p_subterms (P := P) (w := w) (base := base) T
    have G_p_term_size := ok_p_term_size_n T n
    refine T.F_p_term_size.ok sc_p_term_size (fun vs H Q E h => ?_) (fun cdv A outer s H vs Q E hr h => ?_)
    · obtain ⟨v, t, rfl, _⟩ := h
      rfl
    obtain ⟨v, t, rfl, ht, ar, w⟩ := h
    refine ⟨_, (pss_one (ps_ret (pe_op op_add pe_int (pe_callB (cr_sum rfl) (by rfl) T.n_sum (by decide +kernel) (pa_cons (pe_lc (own := [("part", 1)]) (g := gName 1) rfl sc_p_term_size.nd (pi_list (pe_call G_p_subterms (hr.mono (by first | decide | omega)) (by rfl) T.g_p_subterms T.F_p_subterms.kp T.b_p_subterms .nil pass0 (pa_cons (pv 0) pa_nil))) (blkOk_by (own := [("part", 1)]) (N := ["term", "part"]) (sc := defScope s_p_term_size) (by decide +kernel)) (fun _ _ _ _ _ => (pg_name (i := 1) sc_p_term_size.nd rfl (Or.inl rfl))) (fun _ _ _ _ _ => pts_nil) (fun _ _ _ _ _ => (pe_call G_p_term_size (hr.mono (by first | decide | omega)) (by rfl) T.g_p_term_size T.F_p_term_size.kp T.b_p_term_size .nil pass0 (pa_cons (pv 1) pa_nil)))) pa_nil))))), ?_⟩
    refine ⟨v, rfl, v, t, n, rfl, ht, ar.ok, fun l H1 xs s1 nl hl hA => ?_⟩
    refine ⟨l, rfl, ⟨_, SqL.of hl⟩, fun D nD => ?_⟩
    have xl : xs.length ≤ 60 := by rw [hA.1]; exact ar.len
    refine lc_list (K := K) (a := l) (xs := xs) (fun i H2 => Same H1 H2 ∧ H2 D = some (.lst (((t.subs.take i).map fun u => (u.size : Int)).map V.int))) ⟨Same.new nD, upd_same⟩ (fun i H2 _ z => SqL.of (z.1 _ _ hl)) ?_ ?_
    · rintro i x H2 hx ⟨s2, hD⟩
      obtain ⟨u, hu, tu⟩ := hA.at hx
      have il : i < xs.length := (List.getElem?_eq_some_iff.mp hx).1
      refine ⟨rfl, tYes_if ?_⟩
      refine ⟨x, rfl, ?_⟩
      cases n with
      | zero => exact tu.elim
      | succ n =>
        refine ⟨x, u, rfl, tu.same s2, ar.sub (List.mem_of_getElem? hu), fun H3 s3 => ⟨_, s3 _ _ hD, ?_, fun b o e => ?_, ?_⟩⟩
        · rw [List.length_map, List.length_map, List.length_take]; exact szl (by omega)
        · rw [upd_ne (ne_of_none e nD)]; exact s3 _ _ (s2 _ _ e)
        · rw [upd_same, List.take_add_one, hu, List.map_append, List.map_append]; rfl
    · rintro H2 ⟨s2, hD⟩
      rw [hA.1, List.take_length] at hD
      refine ⟨D, _, rfl, SqL.of hD, 1, _, rfl, rfl, ?_⟩
      have e : (1 : Int) + (t.subs.map fun u => (u.size : Int)).sum = ((t.size : Nat) : Int) := by
        rw [t.size_eq, Tm.sizes_eq]
        have c : ∀ l : List Tm, (l.map fun u => (u.size : Int)).sum = (((l.map Tm.size).sum : Nat) : Int) := by
          intro l
          induction l with
          | nil => rfl
          | cons x l ih => rw [List.map_cons, List.sum_cons, ih, List.map_cons, List.sum_cons]; omega
        rw [c]
        omega
      show Q (.int (1 + (t.subs.map fun u => (u.size : Int)).sum)) H2
      rw [e]
      exact w H2 (s1.trans s2)
theorem ok_p_term_size (T : Txt K mg a) : FnOk P w K mg base CX0 13 a.f_p_term_size a.fd_p_term_size ["term"] (sp_p_term_size K) := ok_p_term_size_n T 12
end
section
variable {P : Program} {w : World} {K : PySem.W.Frag} {mg : Str → Option Value} {base : Heap} {a : Ad}
def sp_p_term_depth (K : PySem.W.Frag) : Sp := spDepth K 12

theorem ok_p_term_depth_n (T : Txt K mg a) : ∀ n, FnOk P w K mg base CX0 (n + 1) a.f_p_term_depth a.fd_p_term_depth ["term"] (spDepth K n)
  | 0 => fn_false
  | n + 1 => by
    have G_p_subterms := ok_p_subterms (P := P) (w := w) (base := base) T
    have G_p_term_depth := ok_p_term_depth_n T n
    refine T.F_p_term_depth.ok sc_p_term_depth (fun vs H Q E h => ?_) (fun cdv A outer s H vs Q E hr h => ?_)
    · obtain ⟨v, t, rfl, _⟩ := h
      rfl
    obtain ⟨v, t, rfl, ht, ar, w⟩ := h
    refine ⟨_, (pss_one (ps_ret (pe_op op_add pe_int (pe_callBK (MxD.cr_maxD rfl) (by rfl) T.n_max (by decide +kernel) (pa_cons (pe_lc (own := [("part", 1)]) (g := gName 1) rfl sc_p_term_depth.nd (pi_list (pe_call G_p_subterms (hr.mono (by first | decide | omega)) (by rfl) T.g_p_subterms T.F_p_subterms.kp T.b_p_subterms .nil pass0 (pa_cons (pv 0) pa_nil))) (blkOk_by (own := [("part", 1)]) (N := ["term", "part"]) (sc := defScope s_p_term_depth) (by decide +kernel)) (fun _ _ _ _ _ => (pg_name (i := 1) sc_p_term_depth.nd rfl (Or.inl rfl))) (fun _ _ _ _ _ => pts_nil) (fun _ _ _ _ _ => (pe_call G_p_term_depth (hr.mono (by first | decide | omega)) (by rfl) T.g_p_term_depth T.F_p_term_depth.kp T.b_p_term_depth .nil pass0 (pa_cons (pv 1) pa_nil)))) pa_nil) (pk_cons pe_int pk_nil))))), ?_⟩
    refine ⟨v, rfl, v, t, n, rfl, ht, ar.ok, fun l H1 xs s1 nl hl hA => ?_⟩
    refine ⟨l, rfl, ⟨_, SqL.of hl⟩, fun D nD => ?_⟩
    have xl : xs.length ≤ 60 := by rw [hA.1]; exact ar.len
    refine lc_list (K := K) (a := l) (xs := xs) (fun i H2 => Same H1 H2 ∧ H2 D = some (.lst (((t.subs.take i).map fun u => (u.depth : Int)).map V.int))) ⟨Same.new nD, upd_same⟩ (fun i H2 _ z => SqL.of (z.1 _ _ hl)) ?_ ?_
    · rintro i x H2 hx ⟨s2, hD⟩
      obtain ⟨u, hu, tu⟩ := hA.at hx
      have il : i < xs.length := (List.getElem?_eq_some_iff.mp hx).1
      refine ⟨rfl, tYes_if ?_⟩
      refine ⟨x, rfl, ?_⟩
      cases n with
      | zero => exact tu.elim
      | succ n =>
        refine ⟨x, u, rfl, tu.same s2, ar.sub (List.mem_of_getElem? hu), fun H3 s3 => ⟨_, s3 _ _ hD, ?_, fun b o e => ?_, ?_⟩⟩
        · rw [List.length_map, List.length_map, List.length_take]; exact szl (by omega)
        · rw [upd_ne (ne_of_none e nD)]; exact s3 _ _ (s2 _ _ e)
        · rw [upd_same, List.take_add_one, hu, List.map_append, List.map_append]; rfl
    · rintro H2 ⟨s2, hD⟩
      rw [hA.1, List.take_length] at hD
      have e0 : t.subs.map (fun u => (u.depth : Int)) = [] → (1 : Int) + 0 = ((t.depth : Nat) : Int) := fun z => by
        have := List.map_eq_nil_iff.mp z
        rw [t.depth_eq, this, Tm.depths]
        rfl
      have e1 : ∀ m ∈ t.subs.map (fun u => (u.depth : Int)), (∀ k ∈ t.subs.map (fun u => (u.depth : Int)), k ≤ m) → (1 : Int) + m = ((t.depth : Nat) : Int) := fun m hm hk => by
        have z := depths_max hm hk
        rw [t.depth_eq]
        omega
      refine ⟨D, t.subs.map (fun u => (u.depth : Int)), .int 0, rfl, rfl, SqL.of hD, fun z => ⟨1, 0, rfl, rfl, ?_⟩, fun m hm hk => ⟨1, m, rfl, rfl, ?_⟩⟩
      · show Q (.int (1 + 0)) H2
        rw [e0 z]
        exact w H2 (s1.trans s2)
      · show Q (.int (1 + m)) H2
        rw [e1 m hm hk]
        exact w H2 (s1.trans s2)
theorem ok_p_term_depth (T : Txt K mg a) : FnOk P w K mg base CX0 13 a.f_p_term_depth a.fd_p_term_depth ["term"] (sp_p_term_depth K) := ok_p_term_depth_n T 12
end
section
variable {P : Program} {w : World} {K : PySem.W.Frag} {mg : Str → Option Value} {base : Heap} {a : Ad}
def sp_p_event_names (K : PySem.W.Frag) : Sp := spNames K 12

theorem ok_p_event_names_n (T : Txt K mg a) : ∀ n, FnOk P w K mg base CX0 (n + 1) a.f_p_event_names a.fd_p_event_names ["term"] (spNames K n)
  | 0 => fn_false
  | n + 1 => by
    have G_p_subterms := ok_p_subterms (P := P) (w := w) (base := base) T
    have G_p_event_names := ok_p_event_names_n T n
    refine T.F_p_event_names.ok sc_p_event_names (fun vs H Q E h => ?_) (fun cdv A outer s H vs Q E hr h => ?_)
    · obtain ⟨v, t, rfl, _⟩ := h
      rfl
    obtain ⟨v, t, rfl, ht, ar, fl, w⟩ := h
    refine ⟨_, (pss_cons (ps_if (pt_cmpR op_eq (pe_ix ix_tup (pv 0) pe_int (fun _ _ => rfl)) pe_str (nomark _)) (pss_one (ps_ret (pe_lst (pa_cons (pe_ix ix_tup (pv 0) pe_int (fun _ _ => rfl)) pa_nil)))) pss_nil)
      (pss_cons (ps_set (i := 1) sc_p_event_names.nd rfl (by first | exact Or.inl rfl | exact Or.inr rfl) (pe_lst pa_nil))
      (pss_cons (ps_for PassesOwn.never rfl (pi_list (pe_call G_p_subterms (hr.mono (by first | decide | omega)) (by rfl) T.g_p_subterms T.F_p_subterms.kp T.b_p_subterms .nil pass0 (pa_cons (pv 0) pa_nil))) (pg_name (i := 2) sc_p_event_names.nd rfl (by first | exact Or.inl rfl | exact Or.inr rfl)) (pss_one (ps_for PassesOwn.never rfl (pi_list (pe_call G_p_event_names (hr.mono (by first | decide | omega)) (by rfl) T.g_p_event_names T.F_p_event_names.kp T.b_p_event_names .nil pass0 (pa_cons (pv 2) pa_nil))) (pg_name (i := 3) sc_p_event_names.nd rfl (by first | exact Or.inl rfl | exact Or.inr rfl)) (pss_one (ps_if (pt_cmpR op_notIn_seq (pv 3) (pv 1) (by rfl)) (pss_one (ps_expr (pe_bm PySem.F.plainAttrs_list PySem.F.slot_list_append PySem.F.type_list_append mt_append (pv 1) (pa_cons (pv 3) pa_nil)))) pss_nil)))))
      (pss_one (ps_ret (pv 1)))))), ?_⟩
    cases t with
    | ev s =>
      obtain ⟨p, rfl, hp⟩ := ht
      refine ⟨.ref p, rfl, p, _, 0, _, rfl, rfl, hp, rfl, rfl, _, rfl, ifT (decide_eq_true rfl) ?_⟩
      refine ⟨.ref p, rfl, p, _, 1, _, rfl, rfl, hp, rfl, sz (by show 1 ≤ 100000; decide), fun l nl => ?_⟩
      exact w l _ (Same.new nl) nl upd_same
    | nd k ts =>
      have hd : ∃ p ys, v = .ref p ∧ SqT K H p (.str (kdS k) :: ys) := by
        obtain ⟨xs, hN, _⟩ := ht
        cases k with
        | delay f => obtain ⟨p, x, fv, _, e, hp, _⟩ := hN; exact ⟨p, _, e, hp⟩
        | max => obtain ⟨p, e, hp⟩ := hN; exact ⟨p, _, e, hp⟩
        | min => obtain ⟨p, e, hp⟩ := hN; exact ⟨p, _, e, hp⟩
        | median => obtain ⟨p, e, hp⟩ := hN; exact ⟨p, _, e, hp⟩
        | mix ws => obtain ⟨p, ys, e, hp, _⟩ := hN; exact ⟨p, _, e, hp⟩
      have ne : decide (kdS k = ("event" : Str)) = false := by
        cases k with
        | delay f => exact (show decide (("delay" : Str) = "event") = false by decide +kernel)
        | max => exact (show decide (("max" : Str) = "event") = false by decide +kernel)
        | min => exact (show decide (("min" : Str) = "event") = false by decide +kernel)
        | median => exact (show decide (("median" : Str) = "event") = false by decide +kernel)
        | mix ws => exact (show decide (("mix" : Str) = "event") = false by decide +kernel)
      obtain ⟨p, ys, rfl, hp⟩ := hd
      refine ⟨.ref p, rfl, p, _, 0, _, rfl, rfl, hp, atI_nat (j := 0) rfl, rfl, _, rfl, ifF (str_no ne) ?_⟩
      refine ⟨sz (by show 0 ≤ 100000; decide), fun nm nnm => ?_⟩
      have s0 := Same.new (o := .lst []) nnm
      refine ⟨.ref p, rfl, .ref p, .nd k ts, n, rfl, TmAt.same s0 (n := n + 1) ht, ar.ok, fun l H1 xs s1 nl hl hA => ?_⟩
      have hnm1 : H1 nm = some (.lst []) := s1 _ _ upd_same
      have lnm : l ≠ nm := fun z => by rw [z, upd_same] at nl; cases nl
      have hA1 : xs.length = ts.length := hA.1
      refine ⟨l, rfl, ⟨_, SqL.of hl⟩, for_list (K := K) (a := l) (xs := xs) (fun i σ H2 => ∃ y2 y3, σ = [some (.ref p), some (.ref nm), y2, y3] ∧ Same H H2 ∧ H2 l = some (.lst xs) ∧ All2 (TmAt K H2 n) xs ts ∧ H2 nm = some (.lst ((ded (Tm.flats (ts.take i))).map V.str))) ⟨none, none, rfl, s0.trans s1, hl, hA, hnm1⟩ (fun i σ H2 _ ⟨_, _, _, _, z, _⟩ => SqL.of z) ?_ ?_⟩
      · rintro i x σ H2 hx ⟨y2, y3, rfl, s2, hl2, hA2, hnm⟩
        obtain ⟨u, hu, tu⟩ := hA2.at hx
        have il : i < xs.length := (List.getElem?_eq_some_iff.mp hx).1
        have fu : u.flat.length + (Tm.flats (ts.take i)).length ≤ 1000 := by
          have e := flats_take hu
          have e2 : (Tm.flats (ts.take (i + 1))).length ≤ (Tm.flats ts).length := by
            have tk : ∀ (m : Nat) (l : List Tm), (Tm.flats (l.take m)).length ≤ (Tm.flats l).length := by
              intro m
              induction m with
              | zero => intro l; rw [List.take_zero]; exact Nat.zero_le _
              | succ m ih =>
                intro l
                cases l with
                | nil => exact Nat.le_refl _
                | cons a l => rw [List.take_succ_cons, Tm.flats, Tm.flats, List.length_append, List.length_append]; have := ih l; omega
            exact tk _ _
          have e3 : (Tm.nd k ts).flat = Tm.flats ts := by rw [Tm.flat]
          rw [e3] at fl
          rw [e, List.length_append] at e2
          omega
        refine ⟨x, rfl, ?_⟩
        cases n with
        | zero => exact tu.elim
        | succ n =>
          refine ⟨x, u, rfl, tu, ar.sub (u := u) (List.mem_of_getElem? hu), by omega, fun l3 H3 s3 nl3 hl3 => ?_⟩
          have n3 : l3 ≠ nm := fun z => by rw [z, hnm] at nl3; cases nl3
          have n3l : l3 ≠ l := fun z => by rw [z, hl2] at nl3; cases nl3
          refine ⟨l3, rfl, ⟨_, SqL.of hl3⟩, for_list (K := K) (a := l3) (xs := (ded u.flat).map V.str) (fun j σ H4 => ∃ y3, σ = [some (.ref p), some (.ref nm), some x, y3] ∧ Same H H4 ∧ H4 l = some (.lst xs) ∧ All2 (TmAt K H4 (n + 1)) xs ts ∧ H4 l3 = some (.lst ((ded u.flat).map V.str)) ∧ H4 nm = some (.lst ((((ded u.flat).take j).foldl addS (ded (Tm.flats (ts.take i)))).map V.str))) ⟨_, rfl, s2.trans s3, s3 _ _ hl2, hA2.mono (fun _ _ z => z.same s3), hl3, s3 _ _ hnm⟩ (fun j σ H4 _ ⟨_, _, _, _, _, z, _⟩ => SqL.of z) ?_ ?_⟩
          · rintro j y σ H4 hy ⟨y3, rfl, s4, hl4, hA4, hl34, hnm4⟩
            obtain ⟨q, hq, rfl⟩ : ∃ q, (ded u.flat)[j]? = some q ∧ y = V.str q := by
              rw [List.getElem?_map] at hy
              cases e : (ded u.flat)[j]? with
              | none => rw [e] at hy; cases hy
              | some q => rw [e] at hy; exact ⟨q, rfl, (Option.some.inj hy).symm⟩
            have tk : (ded u.flat).take (j + 1) = (ded u.flat).take j ++ [q] := by rw [List.take_add_one, hq]; rfl
            refine ⟨.str q, rfl, .ref nm, rfl, nm, _, rfl, .inl (SqL.of hnm4), rfl, flat_strs _, _, rfl, ?_⟩
            have fin : ((ded u.flat).take (j + 1)).foldl addS (ded (Tm.flats (ts.take i))) = addS (((ded u.flat).take j).foldl addS (ded (Tm.flats (ts.take i)))) q := by rw [tk, List.foldl_append]; rfl
            show (if (!inV (.str q) _) = true then _ else _)
            rw [in_strs]
            by_cases hm : q ∈ ((ded u.flat).take j).foldl addS (ded (Tm.flats (ts.take i)))
            · refine ifF (by rw [decide_eq_true hm]; rfl) ?_
              refine ⟨_, rfl, s4, hl4, hA4, hl34, ?_⟩
              rw [fin, add_old hm]
              exact hnm4
            · refine ifT (by rw [decide_eq_false hm]; rfl) ?_
              refine ⟨.ref nm, rfl, .inl ⟨rfl, _, SqL.of hnm4⟩, .str q, rfl, nm, _, _, rfl, rfl, hnm4, ?_, ?_⟩
              · have b1 := ded_len ((ded u.flat).take j) (ded (Tm.flats (ts.take i)))
                have b2 := ded_len u.flat []
                have b3 := ded_len (Tm.flats (ts.take i)) []
                have b4 : ((ded u.flat).take j).length ≤ (ded u.flat).length := by rw [List.length_take]; exact Nat.min_le_right _ _
                have b2' : (ded u.flat).length ≤ 0 + u.flat.length := b2
                have b3' : (ded (Tm.flats (ts.take i))).length ≤ 0 + (Tm.flats (ts.take i)).length := b3
                rw [List.length_map]
                exact szl (by omega)
              · refine ⟨_, rfl, fun b o e => ?_, ?_, hA4.mono (fun _ _ z => z.put hnm4), ?_, ?_⟩
                · rw [upd_ne (ne_of_none e nnm)]; exact s4 _ _ e
                · rw [upd_ne lnm]; exact hl4
                · rw [upd_ne n3]; exact hl34
                · rw [upd_same, fin, add_new hm, List.map_append]; rfl
          · rintro σ H4 ⟨y3, rfl, s4, hl4, hA4, hl34, hnm4⟩
            refine ⟨_, _, rfl, s4, hl4, hA4, ?_⟩
            rw [List.length_map, List.take_length, ded_into, ← ded_app, ← flats_take hu] at hnm4
            exact hnm4
      · rintro σ H2 ⟨y2, y3, rfl, s2, hl2, hA2, hnm⟩
        rw [hA1, List.take_length] at hnm
        refine ⟨.ref nm, rfl, w nm H2 s2 nnm ?_⟩
        rw [Tm.flat]
        exact hnm
theorem ok_p_event_names (T : Txt K mg a) : FnOk P w K mg base CX0 13 a.f_p_event_names a.fd_p_event_names ["term"] (sp_p_event_names K) := ok_p_event_names_n T 12
end
section
variable {P : Program} {w : World} {K : PySem.W.Frag} {mg : Str → Option Value} {base : Heap} {a : Ad}
def sp_l_source (K : PySem.W.Frag) : Sp := fun vs H Q _ => ∃ (b : Addr) (ns : List Int), vs = [.ref b] ∧ SqL K H b (ns.map V.int) ∧ ns.length ≤ 63 ∧ ∀ H' r, Same H H' → H r = none → Rg H' r → Q (.ref r) H'
theorem cut63 {xs : List V} (h : xs.length ≤ 63) : cutV xs none (some 63) = xs := by
  unfold cutV
  rw [HT.sIx_none, show HT.sIx xs.length xs.length (some 63) = min 63 xs.length from HT.sIx_nat xs.length xs.length 63]
  rw [List.drop_zero, show min 63 xs.length - 0 = xs.length by omega, List.take_length]

theorem ok_l_source (T : Txt K mg a) : FnOk P w K mg base CX0 1 a.f_l_source a.fd_l_source ["_law_script"] (sp_l_source K) := by
  refine T.F_l_source.ok sc_l_source (fun vs H Q E h => ?_) (fun cdv A outer s H vs Q E hr h => ?_)
  · obtain ⟨b, ns, rfl, _⟩ := h
    rfl
  · obtain ⟨b, ns, rfl, hS, hlen, w⟩ := h
    refine ⟨_, (pss_cons (ps_set (i := 1) sc_l_source.nd rfl (by first | exact Or.inl rfl | exact Or.inr rfl) (pe_op op_add pe_int (pe_op op_mul pe_int (pe_callB call_len (by rfl) T.n_len (by decide +kernel) (pa_cons (pe_slice sl_list (pv 0) po_none (po_some pe_int)) pa_nil)))))
          (pss_cons (ps_for PassesOwn.never rfl (pi_list (pe_slice sl_list (pv 0) po_none (po_some pe_int))) (pg_name (i := 2) sc_l_source.nd rfl (by first | exact Or.inl rfl | exact Or.inr rfl)) (pss_one (ps_set (i := 1) sc_l_source.nd rfl (by first | exact Or.inl rfl | exact Or.inr rfl) (pe_op op_mod (pe_op op_add (pe_op op_add (pe_op op_mul (pv 1) pe_int) (pe_op op_mod (pv 2) pe_int)) pe_int) pe_int))))
          (pss_one (ps_ret (pe_lst (pa_cons (pe_callTy call_list_of (by rfl) T.n_list (by decide +kernel) (pa_cons (pe_slice sl_list (pv 0) po_none (po_some pe_int)) pa_nil)) (pa_cons pe_int (pa_cons pe_int (pa_cons (pv 1) pa_nil))))))))), ?_⟩
    have hl : (ns.map V.int).length ≤ 63 := by rw [List.length_map]; exact hlen
    refine ⟨.ref b, rfl, 63, rfl, b, _, rfl, hS, fun p np => ?_⟩
    rw [cut63 hl]
    have s1 : Same H (upd H p (.lst (ns.map V.int))) := Same.new np
    refine ⟨.ref p, ns.length, rfl, .inl ⟨_, SqL.of upd_same, by simp⟩, 67, _, rfl, rfl, .inl ⟨by decide, by decide⟩, 9472, _, rfl, rfl, ?_⟩
    refine ⟨.ref b, rfl, 63, rfl, b, _, rfl, s1.seq hS, fun p2 np2 => ?_⟩
    rw [cut63 hl]
    have s2 : Same H (upd (upd H p (.lst (ns.map V.int))) p2 (.lst (ns.map V.int))) := s1.trans (Same.new np2)
    refine ⟨p2, rfl, ⟨_, SqL.of upd_same⟩, for_list (K := K) (a := p2) (xs := ns.map V.int) (fun i σ H' => ∃ k y, σ = [some (.ref b), some (.int k), y] ∧ 0 ≤ k ∧ k < 2147483563 ∧ H' = upd (upd H p (.lst (ns.map V.int))) p2 (.lst (ns.map V.int)))
      ⟨_, none, rfl, by omega, by omega, rfl⟩ (fun i σ H' _ ⟨_, _, _, _, _, e⟩ => by rw [e]; exact SqL.of upd_same) ?_ ?_⟩
    · rintro i y σ H' hi ⟨k, y', rfl, k0, k1, rfl⟩
      obtain ⟨z, hz, rfl⟩ : ∃ z, ns[i]? = some z ∧ y = V.int z := by
        rw [List.getElem?_map] at hi
        cases e : ns[i]? with
        | none => rw [e] at hi; cases hi
        | some z => rw [e] at hi; exact ⟨z, rfl, (Option.some.inj hi).symm⟩
      refine ⟨.int k, rfl, k, 40014, rfl, rfl, .inl ⟨by omega, by omega⟩, .int z, rfl, z, 2147483563, rfl, rfl, (show (0 : Int) < 2147483563 by decide), _, _, rfl, rfl, _, _, rfl, rfl, _, 2147483563, rfl, rfl, (show (0 : Int) < 2147483563 by decide), ?_⟩
      exact ⟨_, _, rfl, Int.emod_nonneg _ (by decide), Int.emod_lt_of_pos _ (by decide), rfl⟩
    · rintro σ H' ⟨k, y', rfl, k0, k1, rfl⟩
      refine ⟨.ref b, rfl, 63, rfl, b, _, rfl, s2.seq hS, fun p3 np3 => ?_⟩
      rw [cut63 hl]
      refine ⟨p3, _, rfl, .inl (SqL.of upd_same), fun l nl => ?_⟩
      refine ⟨.int k, rfl, sz (by show 4 ≤ 100000; decide), fun r nr => ?_⟩
      have s3 := s2.trans (Same.new (o := .lst (ns.map V.int)) np3)
      have s4 := s3.trans (Same.new (o := .lst (ns.map V.int)) nl)
      have s5 := s4.trans (Same.new (o := .lst [.ref l, .int 0, .int 0, .int k]) nr)
      refine w _ r s5 (s4.free nr) ⟨l, ns, 0, 0, k, upd_same, ?_, by omega, by omega, by omega, k0, k1⟩
      rw [upd_ne (fun z => by rw [z] at nl; rw [← z, upd_same] at nr; cases nr)]
      exact upd_same
end
section
variable {P : Program} {w : World} {K : PySem.W.Frag} {mg : Str → Option Value} {base : Heap} {a : Ad}
def sp_l_draw (_ : PySem.W.Frag) : Sp := fun vs H Q _ => ∃ (r : Addr) (q : Int), vs = [.ref r, .int q] ∧ Rg H r ∧ 0 < q ∧ q < 2 ^ 64 ∧ ∀ v H', 0 ≤ v → v < q → Kp r H H' → Rg H' r → Q (.int v) H'
theorem cell_at {ns : List Int} {i : Int} (h0 : 0 ≤ i) (h1 : i < (ns.length : Int)) : ∃ z, atI (ns.map V.int) i = some (V.int z) := by
  have e : i = ((i.toNat : Nat) : Int) := by omega
  have l : i.toNat < ns.length := by omega
  refine ⟨ns[i.toNat], ?_⟩
  have h : atI (ns.map V.int) ((i.toNat : Nat) : Int) = some (V.int ns[i.toNat]) := atI_nat (by simp [l])
  rw [← e] at h
  exact h
theorem div_ok {q : Int} (h : 0 < q) (h' : q < 2 ^ 64) (i : Int) : CDivW i q := wide_div (b := 64) h (by omega) (by decide) (by decide)

theorem ok_l_draw (T : Txt K mg a) : FnOk P w K mg base CX0 1 a.f_l_draw a.fd_l_draw ["_law_rng", "_law_quantity"] (sp_l_draw K) := by
  refine T.F_l_draw.ok sc_l_draw (fun vs H Q E h => ?_) (fun cdv A outer s H vs Q E hr h => ?_)
  · obtain ⟨r, q, rfl, _⟩ := h
    rfl
  · obtain ⟨r, q, rfl, ⟨c, ns, i, x, k, R⟩, q0, q1, w⟩ := h
    refine ⟨_, (C8.pss_cut (ps_if (PW.pt (pw_and (pt_cmpR op_eq (pe_ix ix_list (pv 0) pe_int (fun _ _ => rfl)) pe_int (nomark _)) (pw_and1 (pt_cmpR op_lt (pe_ix ix_list (pv 0) pe_int (fun _ _ => rfl)) (pe_callB call_len (by rfl) T.n_len (by decide +kernel) (pa_cons (pe_ix ix_list (pv 0) pe_int (fun _ _ => rfl)) pa_nil)) (nomark _))))) (pss_cons (ps_set (i := 2) sc_l_draw.nd rfl (by first | exact Or.inl rfl | exact Or.inr rfl) (pe_ix ix_list (pe_ix ix_list (pv 0) pe_int (fun _ _ => rfl)) (pe_ix ix_list (pv 0) pe_int (fun _ _ => rfl)) (fun _ _ => rfl)))
          (pss_cons (ps_asg (pe_op op_add (pe_ix ix_list (pv 0) pe_int (fun _ _ => rfl)) pe_int) (pg_sub (pv 0) pe_int set_list))
          (pss_one (ps_if (pt_cmpR op_ge (pv 2) (pe_op op_pow pe_int pe_int) (nomark _)) (pss_one (ps_asg (pv 2) (pg_sub (pv 0) pe_int set_list))) (pss_one (ps_asg (pe_op op_mod (pe_op op_add (pe_op op_add (pe_op op_mul (pe_ix ix_list (pv 0) pe_int (fun _ _ => rfl)) pe_int) (pe_op op_mul (pe_op op_mod (pv 2) pe_int) pe_int)) (pe_ix ix_list (pv 0) pe_int (fun _ _ => rfl))) pe_int) (pg_sub (pv 0) pe_int set_list))))))) pss_nil)
          (pss_cons (ps_if (pt_cmpR op_gt (pe_ix ix_list (pv 0) pe_int (fun _ _ => rfl)) pe_int (nomark _)) (pss_cons (ps_set (i := 3) sc_l_draw.nd rfl (by first | exact Or.inl rfl | exact Or.inr rfl) (pe_op op_mod (pe_ix ix_list (pv 0) pe_int (fun _ _ => rfl)) (pv 1)))
          (pss_cons (ps_asg (pe_op op_fdivW (pe_ix ix_list (pv 0) pe_int (fun _ _ => rfl)) (pv 1)) (pg_sub (pv 0) pe_int set_list))
          (pss_one (ps_ret (pv 3))))) pss_nil)
          (pss_cons (ps_set (i := 4) sc_l_draw.nd rfl (by first | exact Or.inl rfl | exact Or.inr rfl) (pe_ix ix_list (pv 0) pe_int (fun _ _ => rfl)))
          (pss_cons (ps_asg (pe_op op_mod (pe_op op_add (pe_op op_add (pe_op op_mul (pv 4) (pv 4)) (pe_op op_mul (pv 4) pe_int)) pe_int) pe_int) (pg_sub (pv 0) pe_int set_list))
          (pss_one (ps_ret (pe_op op_mod (pe_op op_add (pe_op op_fdivW (pe_ix ix_list (pv 0) pe_int (fun _ _ => rfl)) pe_int) (pe_op op_mul (pe_op op_mod (pe_ix ix_list (pv 0) pe_int (fun _ _ => rfl)) pe_int) pe_int)) (pv 1)))))))), ?_⟩
    have hR := R.hr
    have hC := R.hc
    have hk0 := R.k0
    have hk1 := R.k1
    have hi0 := R.i0
    refine ⟨fun σ H1 => ∃ y i1 x1 k1, σ = [some (.ref r), some (.int q), y, none, none] ∧ RgS H1 r c ns i1 x1 k1 ∧ Kp r H H1, ?_, ?_⟩
    · refine ⟨.ref r, rfl, r, _, 2, _, rfl, rfl, SqL.of hR, rfl, rfl, _, rfl, ite2 (fun e => ?_) (fun e => ?_)⟩
      · refine ⟨.ref r, rfl, r, _, 1, _, rfl, rfl, SqL.of hR, rfl, .ref r, rfl, r, _, 0, _, rfl, rfl, SqL.of hR, rfl, .ref c, ns.length, rfl, .inl ⟨_, SqL.of hC, by simp⟩, i, _, rfl, rfl, _, rfl, ite2 (fun e1 => ?_) (fun e1 => ?_)⟩
        · have l1 : i < (ns.length : Int) := of_decide_eq_true e1
          obtain ⟨z, hz⟩ := cell_at hi0 l1
          have hx : x = 0 := V.int.inj (of_decide_eq_true e)
          refine ⟨.ref r, rfl, r, _, 0, _, rfl, rfl, SqL.of hR, rfl, .ref r, rfl, r, _, 1, _, rfl, rfl, SqL.of hR, rfl, c, _, i, .int z, rfl, rfl, SqL.of hC, hz, ?_⟩
          refine ⟨.ref r, rfl, r, _, 1, _, rfl, rfl, SqL.of hR, rfl, i, 1, rfl, rfl, .ref r, rfl, r, _, 1, 1, rfl, rfl, hR, rfl, ?_⟩
          have R1 := R.set (i' := i + 1) (x' := x) (k' := k) (by omega) (by omega) R.x0 R.k0 R.k1
          refine ⟨.int z, rfl, 10, 18, rfl, rfl, ⟨by decide, by decide, by decide⟩, z, _, rfl, rfl, _, rfl, ite2 (fun e2 => ?_) (fun e2 => ?_)⟩
          · have hz2 : (10 : Int) ^ 18 ≤ z := of_decide_eq_true e2
            have R2 := R.set (i' := i + 1) (x' := z) (k' := k) (by omega) (by omega) (by omega) R.k0 R.k1
            refine ⟨.int z, rfl, .ref r, rfl, r, _, 2, 2, rfl, rfl, R1.hr, rfl, ?_⟩
            refine ⟨_, i + 1, z, k, rfl, ?_, ?_⟩
            · rw [upd_upd]; exact R2
            · rw [upd_upd]; exact Kp.at hR
          · refine ⟨.ref r, rfl, r, _, 3, _, rfl, rfl, SqL.of R1.hr, rfl, k, 40692, rfl, rfl, .inl ⟨by omega, by omega⟩, .int z, rfl, z, 2147483563, rfl, rfl, (show (0 : Int) < 2147483563 by decide), _, 71, rfl, rfl, .inr ⟨by decide, by decide⟩, _, _, rfl, rfl,
              .ref r, rfl, r, _, 1, _, rfl, rfl, SqL.of R1.hr, rfl, _, _, rfl, rfl, _, 2147483563, rfl, rfl, (show (0 : Int) < 2147483563 by decide), .ref r, rfl, r, _, 3, 3, rfl, rfl, R1.hr, rfl, ?_⟩
            have R2 := R.set (i' := i + 1) (x' := x) (k' := (k * 40692 + z % 2147483563 * 71 + (i + 1)) % 2147483563) (by omega) (by omega) (by omega) (by omega) (by omega)
            refine ⟨_, i + 1, x, (k * 40692 + z % 2147483563 * 71 + (i + 1)) % 2147483563, rfl, ?_, ?_⟩
            · rw [upd_upd]; exact R2
            · rw [upd_upd]; exact Kp.at hR
        · exact ⟨none, i, x, k, rfl, R, Kp.refl⟩
      · exact iteF ⟨none, i, x, k, rfl, R, Kp.refl⟩
    · rintro σ H1 ⟨y, i1, x1, k1, rfl, R1, kp⟩
      have hR1 := R1.hr
      have hk0 := R1.k0
      have hk1 := R1.k1
      have hx0 := R1.x0
      refine ⟨.ref r, rfl, r, _, 2, _, rfl, rfl, SqL.of hR1, rfl, x1, 0, rfl, rfl, _, rfl, ite2 (fun e => ?_) (fun e => ?_)⟩
      · refine ⟨.ref r, rfl, r, _, 2, _, rfl, rfl, SqL.of hR1, rfl, .int q, rfl, x1, q, rfl, rfl, q0, ?_⟩
        refine ⟨.ref r, rfl, r, _, 2, _, rfl, rfl, SqL.of hR1, rfl, .int q, rfl, x1, q, rfl, rfl, div_ok q0 q1 x1, .ref r, rfl, r, _, 2, 2, rfl, rfl, hR1, rfl, ?_⟩
        refine ⟨_, rfl, w _ _ (Int.emod_nonneg _ (by omega)) (Int.emod_lt_of_pos _ q0) (kp.trans (Kp.at hR1)) ⟨c, ns, i1, x1 / q, k1, R1.set R1.i0 R1.i1 (Int.ediv_nonneg hx0 (by omega)) hk0 hk1⟩⟩
      · refine ⟨.ref r, rfl, r, _, 3, _, rfl, rfl, SqL.of hR1, rfl, ?_⟩
        refine ⟨.int k1, rfl, .int k1, rfl, k1, k1, rfl, rfl, .inl ⟨by omega, by omega⟩, .int k1, rfl, k1, 39373, rfl, rfl, .inl ⟨by omega, by omega⟩, _, _, rfl, rfl, _, _, rfl, rfl, _, 2147483563, rfl, rfl, (show (0 : Int) < 2147483563 by decide), .ref r, rfl, r, _, 3, 3, rfl, rfl, hR1, rfl, ?_⟩
        have m0 : 0 ≤ (k1 * k1 + k1 * 39373 + 80021) % 2147483563 := Int.emod_nonneg _ (by decide)
        have m1 : (k1 * k1 + k1 * 39373 + 80021) % 2147483563 < 2147483563 := Int.emod_lt_of_pos _ (by decide)
        have R2 := R1.set (k' := (k1 * k1 + k1 * 39373 + 80021) % 2147483563) R1.i0 R1.i1 R1.x0 m0 m1
        refine ⟨.ref r, rfl, r, _, 3, _, rfl, rfl, SqL.of R2.hr, rfl, _, 61, rfl, rfl, ⟨by decide, by decide⟩, .ref r, rfl, r, _, 3, _, rfl, rfl, SqL.of R2.hr, rfl, _, 8123, rfl, rfl, (show (0 : Int) < 8123 by decide), _, 223, rfl, rfl, .inr ⟨by decide, by decide⟩, _, _, rfl, rfl, .int q, rfl, _, q, rfl, rfl, q0, ?_⟩
        exact w _ _ (Int.emod_nonneg _ (by omega)) (Int.emod_lt_of_pos _ q0) (kp.trans (Kp.at hR1)) ⟨c, ns, i1, x1, _, R2⟩
end
section
variable {P : Program} {w : World} {K : PySem.W.Frag} {mg : Str → Option Value} {base : Heap} {a : Ad}
/-- what may be chosen from: a list, a tuple, a text -/
def Pick (K : PySem.W.Frag) (H : Hp) (r : Addr) (v : V) (items : List V) : Prop := (∃ p, v = .ref p ∧ p ≠ r ∧ (SqL K H p items ∨ SqT K H p items)) ∨ ∃ z : Str, v = .str z ∧ items = z.cps.toList.map fun c => V.str ⟨#[c]⟩
def sp_l_choice (K : PySem.W.Frag) : Sp := fun vs H Q _ => ∃ (r : Addr) (v : V) (items : List V), vs = [.ref r, v] ∧ Rg H r ∧ Pick K H r v items ∧ 0 < items.length ∧ items.length ≤ 100000 ∧ ∀ x ∈ items, ∀ H', Kp r H H' → Rg H' r → Q x H'
theorem at_int {α : Type} {xs : List α} {i : Int} (h0 : 0 ≤ i) (h1 : i < (xs.length : Int)) : ∃ x, atI xs i = some x ∧ x ∈ xs := by
  have e : i = ((i.toNat : Nat) : Int) := by omega
  have l : i.toNat < xs.length := by omega
  refine ⟨xs[i.toNat], ?_, List.getElem_mem l⟩
  have h : atI xs ((i.toNat : Nat) : Int) = some xs[i.toNat] := atI_nat (by simp [l])
  rw [← e] at h
  exact h

theorem ok_l_choice (T : Txt K mg a) : FnOk P w K mg base CX0 2 a.f_l_choice a.fd_l_choice ["_law_rng", "_law_some"] (sp_l_choice K) := by
  have G_l_draw := ok_l_draw (P := P) (w := w) (base := base) T
  refine T.F_l_choice.ok sc_l_choice (fun vs H Q E h => ?_) (fun cdv A outer s H vs Q E hr h => ?_)
  · obtain ⟨r, v, items, rfl, _⟩ := h
    rfl
  · obtain ⟨r, v, items, rfl, R, pk, l0, l1, w⟩ := h
    refine ⟨_, (pss_one (ps_ret (pe_ix ix_seq (pv 1) (pe_call G_l_draw (hr.mono (by first | decide | omega)) (by rfl) T.g_l_draw T.F_l_draw.kp T.b_l_draw .nil pass0 (pa_cons (pv 0) (pa_cons (pe_callB call_len (by rfl) T.n_len (by decide +kernel) (pa_cons (pv 1) pa_nil)) pa_nil))) (fun _ _ => rfl)))), ?_⟩
    have n0 : (0 : Int) < (items.length : Int) := by omega
    have n1 : (items.length : Int) < 2 ^ 64 := by omega
    rcases pk with ⟨p, rfl, np, hp⟩ | ⟨z, rfl, hz⟩
    · refine ⟨.ref p, rfl, .ref r, rfl, .ref p, rfl, .ref p, items.length, rfl, ?_, r, _, rfl, R, n0, n1, fun j H' j0 j1 kp R' => ?_⟩
      · rcases hp with hp | hp
        · exact .inl ⟨_, hp, rfl⟩
        · exact .inr ⟨_, hp, rfl⟩
      · obtain ⟨x, hx, hm⟩ := at_int (xs := items) j0 j1
        rcases hp with hp | hp
        · exact .inl ⟨p, items, j, x, rfl, rfl, kp.L np hp, hx, w x hm H' kp R'⟩
        · exact .inr (.inl ⟨p, items, j, x, rfl, rfl, kp.T np hp, hx, w x hm H' kp R'⟩)
    · have hl : z.cps.toList.length = items.length := by rw [hz]; simp
      have hl2 : z.length = items.length := by rw [← hl]; simp [Str.length]
      refine ⟨.str z, rfl, .ref r, rfl, .str z, rfl, .str z, items.length, rfl, ⟨by rw [hl2]; exact sz l1, hl2.symm⟩, r, _, rfl, R, n0, n1, fun j H' j0 j1 kp R' => ?_⟩
      obtain ⟨c, hx, hm⟩ := at_int (xs := z.cps.toList) j0 (by rw [hl]; exact j1)
      exact .inr (.inr ⟨z, j, c, rfl, rfl, by rw [hl2]; exact sz l1, hx, w _ (by rw [hz]; exact List.mem_map.mpr ⟨c, hm, rfl⟩) H' kp R'⟩)
end
section
variable {P : Program} {w : World} {K : PySem.W.Frag} {mg : Str → Option Value} {base : Heap} {a : Ad}
/-- equal data of depth below n: True -/
def spEq (K : PySem.W.Frag) : Nat → Sp
  | 0 => fun _ _ _ _ => False
  | n + 1 => fun vs H Q _ => ∃ x y, vs = [x, y] ∧ Eqd K H n x y ∧ ∀ H', Same H H' → Q (.bl true) H'
def sp_l_equal (K : PySem.W.Frag) : Sp := spEq K 21

theorem ok_l_equal_n (T : Txt K mg a) : ∀ n, FnOk P w K mg base CX0 n a.f_l_equal a.fd_l_equal ["_law_result", "_law_expected"] (spEq K n)
  | 0 => fn_false
  | n + 1 => by
    have G_l_equal := ok_l_equal_n T n
    refine T.F_l_equal.ok sc_l_equal (fun vs H Q E h => ?_) (fun cdv A outer s H vs Q E hr h => ?_)
    · obtain ⟨x, y, rfl, _⟩ := h
      rfl
    obtain ⟨x, y, rfl, hE, w⟩ := h
    refine ⟨_, (pss_cons (ps_if (pt_cmpR op_isN (pv 1) pe_non (nomark _)) (pss_one (ps_ret (pe_cmpR op_isN (pv 0) pe_non (nomark _)))) pss_nil)
      (pss_cons (ps_if (PW.pt (pw_or (pt_val (pe_callB call_isi (by rfl) T.n_isinstance (by decide +kernel) (pa_cons (pv 1) (pa_cons (pe_bltn (v := .ty "list") (by rfl) T.n_list (by decide +kernel) rfl) pa_nil)))) (pw_or1 (pt_val (pe_callB call_isi (by rfl) T.n_isinstance (by decide +kernel) (pa_cons (pv 1) (pa_cons (pe_bltn (v := .ty "tuple") (by rfl) T.n_tuple (by decide +kernel) rfl) pa_nil))))))) (pss_cons (ps_if (PW.pt (pw_or (pt_cmpR op_ne (pe_callB call_isi (by rfl) T.n_isinstance (by decide +kernel) (pa_cons (pv 0) (pa_cons (pe_bltn (v := .ty "list") (by rfl) T.n_list (by decide +kernel) rfl) pa_nil))) (pe_callB call_isi (by rfl) T.n_isinstance (by decide +kernel) (pa_cons (pv 1) (pa_cons (pe_bltn (v := .ty "list") (by rfl) T.n_list (by decide +kernel) rfl) pa_nil))) (nomark _)) (pw_or1 (pt_cmpR op_ne (pe_callB call_isi (by rfl) T.n_isinstance (by decide +kernel) (pa_cons (pv 0) (pa_cons (pe_bltn (v := .ty "tuple") (by rfl) T.n_tuple (by decide +kernel) rfl) pa_nil))) (pe_callB call_isi (by rfl) T.n_isinstance (by decide +kernel) (pa_cons (pv 1) (pa_cons (pe_bltn (v := .ty "tuple") (by rfl) T.n_tuple (by decide +kernel) rfl) pa_nil))) (nomark _))))) (pss_one (ps_ret pe_bl)) pss_nil)
      (pss_one (ps_ret (pe_and (pe_cmpR op_eq (pe_callB call_len (by rfl) T.n_len (by decide +kernel) (pa_cons (pv 0) pa_nil)) (pe_callB call_len (by rfl) T.n_len (by decide +kernel) (pa_cons (pv 1) pa_nil)) (nomark _)) (pe_one (pe_callB (cr_all rfl) (by rfl) T.n_all (by decide +kernel) (pa_cons (pe_lc (own := [("_law_one", 2), ("_law_other", 3)]) (g := gTup K 2 (gCons (gName 2) (gCons (gName 3) gNil))) rfl sc_l_equal.nd (RZ.pi_zipA (by rfl) T.n_zip (pa_cons (pv 0) (pa_cons (pv 1) pa_nil))) (blkOk_by (own := [("_law_one", 2), ("_law_other", 3)]) (N := ["_law_result", "_law_expected", "_law_one", "_law_other"]) (sc := defScope s_l_equal) (by decide +kernel)) (fun _ _ _ _ _ => (pg_tup rfl (pgs_cons (pg_name (i := 2) sc_l_equal.nd rfl (Or.inl rfl)) (pgs_cons (pg_name (i := 3) sc_l_equal.nd rfl (Or.inl rfl)) pgs_nil)))) (fun _ _ _ _ _ => pts_nil) (fun _ _ _ _ _ => (pe_call G_l_equal (hr.mono (by first | decide | omega)) (by rfl) T.g_l_equal T.F_l_equal.kp T.b_l_equal .nil pass0 (pa_cons (pv 2) (pa_cons (pv 3) pa_nil))))) pa_nil))))))) pss_nil)
      (pss_cons (ps_if (PW.pt (pw_or (pt_cmpR op_ne (pe_callB call_isi (by rfl) T.n_isinstance (by decide +kernel) (pa_cons (pv 1) (pa_cons (pe_bltn (v := .ty "bool") (by rfl) T.n_bool (by decide +kernel) rfl) pa_nil))) (pe_callB call_isi (by rfl) T.n_isinstance (by decide +kernel) (pa_cons (pv 0) (pa_cons (pe_bltn (v := .ty "bool") (by rfl) T.n_bool (by decide +kernel) rfl) pa_nil))) (nomark _)) (pw_or1 (pt_cmpR op_ne (pe_callB call_isi (by rfl) T.n_isinstance (by decide +kernel) (pa_cons (pv 1) (pa_cons (pe_bltn (v := .ty "int") (by rfl) T.n_int (by decide +kernel) rfl) pa_nil))) (pe_callB call_isi (by rfl) T.n_isinstance (by decide +kernel) (pa_cons (pv 0) (pa_cons (pe_bltn (v := .ty "int") (by rfl) T.n_int (by decide +kernel) rfl) pa_nil))) (nomark _))))) (pss_one (ps_ret pe_bl)) pss_nil)
      (pss_one (ps_ret (pe_and (pe_cmpR op_eq (pe_callB call_isi (by rfl) T.n_isinstance (by decide +kernel) (pa_cons (pv 0) (pa_cons (pe_bltn (v := .ty "str") (by rfl) T.n_str (by decide +kernel) rfl) pa_nil))) (pe_callB call_isi (by rfl) T.n_isinstance (by decide +kernel) (pa_cons (pv 1) (pa_cons (pe_bltn (v := .ty "str") (by rfl) T.n_str (by decide +kernel) rfl) pa_nil))) (nomark _)) (pe_one (pe_cmpR op_eq (pv 0) (pv 1) (nomark _))))))))), ?_⟩
    by_cases hq : x = y ∧ atom x = true
    · obtain ⟨rfl, hat⟩ := hq
      by_cases hn : x = .non
      · subst hn
        exact ⟨.non, rfl, rfl, _, rfl, ifT (decide_eq_true rfl) ⟨.non, rfl, rfl, by rw [decide_eq_true rfl]; exact w H (Same.refl H)⟩⟩
      · obtain ⟨t, b1, b2, b3, ty, hl, ht, bb, bi, bs, sc⟩ : ∃ (t : String) (b1 b2 b3 : Bool), TyX K H x (.type t) ∧ kitB t "list" = some false ∧ kitB t "tuple" = some false ∧ kitB t "bool" = some b1 ∧ kitB t "int" = some b2 ∧ kitB t "str" = some b3 ∧ scal x x = true := by
          cases x with
          | non => exact absurd rfl hn
          | bl b => exact ⟨"bool", true, true, false, .base (.bl b), by decide +kernel, by decide +kernel, by decide +kernel, by decide +kernel, by decide +kernel, rfl⟩
          | int i => exact ⟨"int", false, true, false, .base (.int i), by decide +kernel, by decide +kernel, by decide +kernel, by decide +kernel, by decide +kernel, rfl⟩
          | str z => exact ⟨"str", false, false, true, .base (.str z), by decide +kernel, by decide +kernel, by decide +kernel, by decide +kernel, by decide +kernel, rfl⟩
          | _ => cases hat
        refine ⟨x, rfl, rfl, _, rfl, ifF (decide_eq_false hn) ?_⟩
        refine ⟨x, rfl, _, _, _, _, _, rfl, .ty _, ty, kit_ty hl, false, rfl, iteF ⟨x, rfl, _, _, _, _, _, rfl, .ty _, ty, kit_ty ht, false, rfl, iteF ?_⟩⟩
        refine ⟨x, rfl, _, _, _, _, _, rfl, .ty _, ty, kit_ty bb, x, rfl, _, _, _, _, _, rfl, .ty _, ty, kit_ty bb, rfl, _, rfl, iteNS rfl ⟨x, rfl, _, _, _, _, _, rfl, .ty _, ty, kit_ty bi, x, rfl, _, _, _, _, _, rfl, .ty _, ty, kit_ty bi, rfl, _, rfl, iteNS rfl ?_⟩⟩
        refine ⟨x, rfl, _, _, _, _, _, rfl, .ty _, ty, kit_ty bs, x, rfl, _, _, _, _, _, rfl, .ty _, ty, kit_ty bs, rfl, _, rfl, ifT (decide_eq_true rfl) ⟨x, rfl, x, rfl, sc, ?_⟩⟩
        rw [decide_eq_true rfl]
        exact w H (Same.refl H)
    cases n with
    | zero => exact absurd hE hq
    | succ n =>
      rcases hE with hE | ⟨p, q, xs, ys, rfl, rfl, hS, hl, hl2, hk⟩
      · exact absurd hE hq
      have nn : ∀ q : Addr, decide (V.ref q = V.non) = false := fun q => decide_eq_false (fun z => nomatch z)
      refine ⟨.ref q, rfl, rfl, _, rfl, ifF (nn q) ?_⟩
      -- one turn of the comprehension, for lists and for tuples alike
      have turn : ∀ (D : Addr) (H1 : Hp) (i : Nat) (u v : V) (N : Hp → Prop), H D = none → Same H H1 → H1 D = some (.lst ((List.replicate i true).map V.bl)) → i < xs.length → xs[i]? = some u → ys[i]? = some v →
          (∀ H2, Same H H2 → H2 D = some (.lst ((List.replicate (i + 1) true).map V.bl)) → N H2) → spEq K (n + 1) [u, v] H1 (fun y H4 => ∃ acc, H4 D = some (.lst acc) ∧ acc.length < sizeLine ∧ N (upd H4 D (.lst (acc ++ [y])))) E0 := by
        intro D H1 i u v N nD s1 hD hi hu hv hN
        refine ⟨u, v, rfl, (hk i u v hu hv).same s1, fun H4 s4 => ⟨_, s4 _ _ hD, by rw [List.length_map, List.length_replicate]; exact szl (by omega), hN _ (fun b o e => ?_) ?_⟩⟩
        · rw [upd_ne (ne_of_none e nD)]
          exact s4 _ _ (s1 _ _ e)
        · rw [upd_same, List.replicate_succ', List.map_append]
          rfl
      have fin : ∀ (D : Addr) (H1 : Hp), Same H H1 → H1 D = some (.lst ((List.replicate xs.length true).map V.bl)) → rAll K [V.ref D] H1 Q := fun D H1 s1 hD =>
        ⟨D, List.replicate xs.length true, rfl, SqL.of hD, by
          rw [show (List.replicate xs.length true).all id = true by simp]
          exact w H1 s1⟩
      rcases hS with ⟨ha, hb⟩ | ⟨ha, hb⟩
      · refine ⟨.ref q, rfl, _, _, _, _, true, rfl, .ty _, tyL hb, kit_ty (by decide +kernel), true, rfl, iteT (iteT ?_)⟩
        refine ⟨.ref p, rfl, _, _, _, _, true, rfl, .ty _, tyL ha, kit_ty (by decide +kernel), .ref q, rfl, _, _, _, _, true, rfl, .ty _, tyL hb, kit_ty (by decide +kernel), rfl, _, rfl, iteNS rfl ?_⟩
        refine ⟨.ref p, rfl, _, _, _, _, false, rfl, .ty _, tyL ha, kit_ty (by decide +kernel), .ref q, rfl, _, _, _, _, false, rfl, .ty _, tyL hb, kit_ty (by decide +kernel), rfl, _, rfl, iteNS rfl ?_⟩
        refine ⟨.ref p, rfl, .ref p, xs.length, rfl, .inl ⟨_, ha, rfl⟩, .ref q, rfl, .ref q, ys.length, rfl, .inl ⟨_, hb, rfl⟩, rfl, _, rfl, ifT (decide_eq_true (by rw [hl])) ?_⟩
        refine ⟨.ref p, rfl, .ref q, rfl, p, q, xs, ys, rfl, .inl ⟨ha, hb, fun D nD => ?_⟩⟩
        refine ⟨fun i m H1 => i + m = xs.length ∧ Same H H1 ∧ H1 D = some (.lst ((List.replicate i true).map V.bl)), ⟨xs.length, by omega, Same.new nD, upd_same⟩, fun i m H1 hW => ?_⟩
        obtain ⟨em, s1, hD⟩ := hW
        by_cases hi : i < xs.length
        · refine .inr ⟨⟨xs, ys, xs[i], ys[i]'(by omega), s1.seq ha, s1.seq hb, List.getElem?_eq_getElem hi, List.getElem?_eq_getElem (by omega)⟩, fun H2 => Same H H2 ∧ H2 D = some (.lst ((List.replicate (i + 1) true).map V.bl)), fun H2 hN => ⟨m - 1, by omega, by omega, hN.1, hN.2⟩, fun v H2 hy => ?_⟩
          obtain ⟨tt, u1, u2, rfl, nT, rfl, f1, f2⟩ := hy
          refine ⟨tt, [u1, u2], rfl, SqT.of upd_same, rfl, u1, [u2], rfl, u2, [], rfl, rfl, rfl, ?_⟩
          refine tYes_if ?_
          refine ⟨u1, rfl, u2, rfl, turn D (upd H1 tt (.tup [u1, u2])) i u1 u2 (fun H2 => Same H H2 ∧ H2 D = some (.lst ((List.replicate (i + 1) true).map V.bl))) nD (s1.trans (Same.new nT)) ?_ hi (f1 _ (s1.seq ha)) (f2 _ (s1.seq hb)) fun H2 a b => ⟨a, b⟩⟩
          rw [upd_ne (ne_of_none hD nT)]
          exact hD
        · have ei : i = xs.length := by omega
          subst ei
          exact .inl ⟨⟨xs, ys, s1.seq ha, s1.seq hb, .inl (Nat.le_refl _)⟩, fin D H1 s1 hD⟩
      · refine ⟨.ref q, rfl, _, _, _, _, false, rfl, .ty _, tyT hb, kit_ty (by decide +kernel), false, rfl, iteF ⟨.ref q, rfl, _, _, _, _, true, rfl, .ty _, tyT hb, kit_ty (by decide +kernel), true, rfl, iteT ?_⟩⟩
        refine ⟨.ref p, rfl, _, _, _, _, false, rfl, .ty _, tyT ha, kit_ty (by decide +kernel), .ref q, rfl, _, _, _, _, false, rfl, .ty _, tyT hb, kit_ty (by decide +kernel), rfl, _, rfl, iteNS rfl ?_⟩
        refine ⟨.ref p, rfl, _, _, _, _, true, rfl, .ty _, tyT ha, kit_ty (by decide +kernel), .ref q, rfl, _, _, _, _, true, rfl, .ty _, tyT hb, kit_ty (by decide +kernel), rfl, _, rfl, iteNS rfl ?_⟩
        refine ⟨.ref p, rfl, .ref p, xs.length, rfl, .inr ⟨_, ha, rfl⟩, .ref q, rfl, .ref q, ys.length, rfl, .inr ⟨_, hb, rfl⟩, rfl, _, rfl, ifT (decide_eq_true (by rw [hl])) ?_⟩
        refine ⟨.ref p, rfl, .ref q, rfl, p, q, xs, ys, rfl, .inr ⟨ha, hb, fun D nD => ?_⟩⟩
        refine ⟨fun i m H1 => i + m = xs.length ∧ Same H H1 ∧ H1 D = some (.lst ((List.replicate i true).map V.bl)), ⟨xs.length, by omega, Same.new nD, upd_same⟩, fun i m H1 hW => ?_⟩
        obtain ⟨em, s1, hD⟩ := hW
        by_cases hi : i < xs.length
        · refine .inr ⟨⟨xs, ys, xs[i], ys[i]'(by omega), Same.T s1 ha, Same.T s1 hb, List.getElem?_eq_getElem hi, List.getElem?_eq_getElem (by omega)⟩, fun H2 => Same H H2 ∧ H2 D = some (.lst ((List.replicate (i + 1) true).map V.bl)), fun H2 hN => ⟨m - 1, by omega, by omega, hN.1, hN.2⟩, fun v H2 hy => ?_⟩
          obtain ⟨tt, u1, u2, rfl, nT, rfl, f1, f2⟩ := hy
          refine ⟨tt, [u1, u2], rfl, SqT.of upd_same, rfl, u1, [u2], rfl, u2, [], rfl, rfl, rfl, ?_⟩
          refine tYes_if ?_
          refine ⟨u1, rfl, u2, rfl, turn D (upd H1 tt (.tup [u1, u2])) i u1 u2 (fun H2 => Same H H2 ∧ H2 D = some (.lst ((List.replicate (i + 1) true).map V.bl))) nD (s1.trans (Same.new nT)) ?_ hi (f1 _ (Same.T s1 ha)) (f2 _ (Same.T s1 hb)) fun H2 a b => ⟨a, b⟩⟩
          rw [upd_ne (ne_of_none hD nT)]
          exact hD
        · have ei : i = xs.length := by omega
          subst ei
          exact .inl ⟨⟨xs, ys, Same.T s1 ha, Same.T s1 hb, .inl (Nat.le_refl _)⟩, fin D H1 s1 hD⟩
theorem ok_l_equal (T : Txt K mg a) : FnOk P w K mg base CX0 21 a.f_l_equal a.fd_l_equal ["_law_result", "_law_expected"] (sp_l_equal K) := ok_l_equal_n T 21
end
section
variable {P : Program} {w : World} {K : PySem.W.Frag} {mg : Str → Option Value} {base : Heap} {a : Ad}
def sp_l_reduce (_ : PySem.W.Frag) : Sp := fun vs H Q _ => ∃ (n d : Int), vs = [.int n, .int d] ∧ d ≠ 0 ∧ d.natAbs < 2 ^ 8000 ∧ ∀ p, H p = none → Q (.ref p) (upd H p (.tup [.int (red n d).1, .int (red n d).2]))

theorem ok_l_reduce (T : Txt K mg a) : FnOk P w K mg base CX0 1 a.f_l_reduce a.fd_l_reduce ["_law_num", "_law_den"] (sp_l_reduce K) := by
  refine T.F_l_reduce.ok sc_l_reduce (fun vs H Q E h => ?_) (fun cdv A outer s H vs Q E hr h => ?_)
  · obtain ⟨n, d, rfl, _⟩ := h
    rfl
  · obtain ⟨n, d, rfl, hd, dB, w⟩ := h
    refine ⟨_, (pss_cons (ps_par (i := 2) (j := 3) (by rfl) sc_l_reduce.nd rfl rfl (by decide) rfl rfl (pa_cons (pe_callB call_abs (by rfl) T.n_abs (by decide +kernel) (pa_cons (pv 0) pa_nil)) (pa_cons (pe_callB call_abs (by rfl) T.n_abs (by decide +kernel) (pa_cons (pv 1) pa_nil)) pa_nil)) (by rfl))
          (pss_cons (ps_while PassesOwn.never (pt_cmpR op_ne (pv 3) pe_int (nomark _)) (pss_one (ps_par (i := 2) (j := 3) (by rfl) sc_l_reduce.nd rfl rfl (by decide) rfl rfl (pa_cons (pv 3) (pa_cons (pe_op op_mod (pv 2) (pv 3)) pa_nil)) (by rfl))))
          (pss_cons (ps_set (i := 4) sc_l_reduce.nd rfl (by first | exact Or.inl rfl | exact Or.inr rfl) (pe_ifExp (pt_cmpR op_gt (pv 1) pe_int (nomark _)) pe_int (pe_un un_neg pe_int)))
          (pss_one (ps_ret (pe_tup (pa_cons (pe_op op_fdivW (pe_op op_mul (pv 4) (pv 0)) (pv 2)) (pa_cons (pe_op op_fdivW (pe_op op_mul (pv 4) (pv 1)) (pv 2)) pa_nil)))))))), ?_⟩
    refine ⟨.int n, rfl, n, rfl, .int d, rfl, d, rfl, _, _, rfl, ?_⟩
    refine ⟨fun m σ H' => ∃ x y : Int, σ = [some (.int n), some (.int d), some (.int x), some (.int y), none] ∧ 0 ≤ x ∧ 0 ≤ y ∧ Int.gcd x y = Int.gcd n d ∧ m = y.toNat ∧ H' = H, ⟨_, _, _, rfl, ?_, ?_, ?_, rfl, rfl⟩, ?_⟩
    · split <;> omega
    · split <;> omega
    · rw [Int.gcd_eq_natAbs_gcd_natAbs, Int.gcd_eq_natAbs_gcd_natAbs]
      congr 1
      · split <;> omega
      · split <;> omega
    rintro m σ H' ⟨x, y, rfl, x0, y0, hg, rfl, hH⟩
    obtain rfl : H = H' := hH.symm
    refine ⟨.int y, rfl, rfl, _, rfl, ite2 (fun e => ?_) (fun e => ?_)⟩
    · have y1 : y ≠ 0 := fun z => by subst z; simp at e
      refine ⟨fun σ' H' => σ' = [some (.int n), some (.int d), some (.int y), some (.int (x % y)), none] ∧ H' = H, ?_, ?_⟩
      · rintro σ' H' ⟨rfl, rfl⟩
        have h1 : 0 ≤ x % y := Int.emod_nonneg _ y1
        have h2 : x % y < y := Int.emod_lt_of_pos _ (by omega)
        exact ⟨(x % y).toNat, by omega, y, x % y, rfl, y0, h1, by rw [gcd_step x0 y0]; exact hg, rfl, rfl⟩
      · exact ⟨.int y, rfl, .int x, rfl, .int y, rfl, x, y, rfl, rfl, (show (0 : Int) < y by omega), _, _, rfl, rfl, rfl⟩
    · have y1 : y = 0 := by
        by_cases z : y = 0
        · exact z
        · exfalso; apply e; simp [z]
      subst y1
      have hx : x = (Int.gcd n d : Int) := by
        rw [← hg, Int.gcd_zero_right]
        omega
      have hp : 0 < x := by rw [hx]; exact gcd_posI hd
      have hB : x.natAbs < 2 ^ 8000 := by
        refine Nat.lt_of_le_of_lt ?_ dB
        have : Int.gcd n d ∣ d.natAbs := Nat.gcd_dvd_right _ _
        have := Nat.le_of_dvd (by omega) this
        omega
      have hdiv : ∀ i, CDivW i x := fun i => wide_div (b := 8000) hp hB (by decide) (by decide)
      refine ⟨.int d, rfl, d, 0, rfl, rfl, _, rfl, ?_⟩
      have fin : ∀ s : Int, s = 1 ∨ s = -1 → s = (if d > 0 then 1 else -1) → (tRet (tTup (tCons (tOp (rI CDivW fun i j => .int (i / j)) (tOp (rI CMul fun i j => .int (i * j)) (tVar 4) (tVar 0)) (tVar 2)) (tCons (tOp (rI CDivW fun i j => .int (i / j)) (tOp (rI CMul fun i j => .int (i * j)) (tVar 4) (tVar 1)) (tVar 2)) tNil)))) { nx := fun _ H' => Q .non H', rt := Q } [some (.int n), some (.int d), some (.int x), some (.int 0), some (.int s)] H := by
        intro s hs es
        refine ⟨.int s, rfl, .int n, rfl, s, n, rfl, rfl, .inl ⟨by omega, by omega⟩, .int x, rfl, _, x, rfl, rfl, hdiv _, .int s, rfl, .int d, rfl, s, d, rfl, rfl, .inl ⟨by omega, by omega⟩, .int x, rfl, _, x, rfl, rfl, hdiv _, sz (by show 2 ≤ 100000; decide), fun p np => ?_⟩
        have z := w p np
        unfold red at z
        rw [← hx, ← es] at z
        exact z
      refine ite2 (fun e2 => ?_) (fun e2 => ?_)
      · exact fin 1 (.inl rfl) (by rw [if_pos (show d > 0 from of_decide_eq_true e2)])
      · refine ⟨1, rfl, ?_⟩
        exact fin (-1) (.inr rfl) (by rw [if_neg (show ¬ d > 0 from fun z => e2 (decide_eq_true z))])
end
section
variable {P : Program} {w : World} {K : PySem.W.Frag} {mg : Str → Option Value} {base : Heap} {a : Ad}
def sp_l_small (K : PySem.W.Frag) : Sp := fun vs H Q _ => ∃ (r : Addr), vs = [.ref r] ∧ Rg H r ∧ ∀ v H' n d, Kp r H H' → Rg H' r → FrB K H' v n d 5 → Q v H'

theorem ok_l_small (T : Txt K mg a) : FnOk P w K mg base CX0 3 a.f_l_small a.fd_l_small ["_law_rng"] (sp_l_small K) := by
  have G_l_reduce := ok_l_reduce (P := P) (w := w) (base := base) T
  have G_l_choice := ok_l_choice (P := P) (w := w) (base := base) T
  have G_l_draw := ok_l_draw (P := P) (w := w) (base := base) T
  refine T.F_l_small.ok sc_l_small (fun vs H Q E h => ?_) (fun cdv A outer s H vs Q E hr h => ?_)
  · obtain ⟨r, rfl, _⟩ := h
    rfl
  · obtain ⟨r, rfl, R, w⟩ := h
    refine ⟨_, (pss_one (ps_ret (pe_call G_l_reduce (hr.mono (by first | decide | omega)) (by rfl) T.g_l_reduce T.F_l_reduce.kp T.b_l_reduce .nil pass0 (pa_cons (pe_op op_sub (pe_call G_l_draw (hr.mono (by first | decide | omega)) (by rfl) T.g_l_draw T.F_l_draw.kp T.b_l_draw .nil pass0 (pa_cons (pv 0) (pa_cons pe_int pa_nil))) pe_int) (pa_cons (pe_call G_l_choice (hr.mono (by first | decide | omega)) (by rfl) T.g_l_choice T.F_l_choice.kp T.b_l_choice .nil pass0 (pa_cons (pv 0) (pa_cons (pe_lst (pa_cons pe_int (pa_cons pe_int (pa_cons pe_int (pa_cons pe_int (pa_cons pe_int (pa_cons pe_int pa_nil))))))) pa_nil))) pa_nil))))), ?_⟩
    refine ⟨.ref r, rfl, r, 25, rfl, R, by decide, by decide, fun v H1 v0 v1 k1 R1 => ?_⟩
    refine ⟨_, _, rfl, rfl, .ref r, rfl, sz (by show 6 ≤ 100000; decide), fun l nl => ?_⟩
    have R2 : Rg (upd H1 l (.lst [.int 1, .int 1, .int 1, .int 2, .int 3, .int 4])) r := R1.same (Same.new nl)
    refine ⟨r, .ref l, _, rfl, R2, .inl ⟨l, rfl, R1.ne nl, .inl (SqL.of upd_same)⟩, by show 0 < 6; decide, by show 6 ≤ 100000; decide, fun x hx H2 k2 R3 => ?_⟩
    obtain ⟨j, rfl, j0, j1⟩ : ∃ j : Int, x = .int j ∧ 0 < j ∧ j < 32 := by
      simp only [List.mem_cons, List.not_mem_nil, or_false] at hx
      rcases hx with h | h | h | h | h | h
      · exact ⟨1, h, by decide, by decide⟩
      · exact ⟨1, h, by decide, by decide⟩
      · exact ⟨1, h, by decide, by decide⟩
      · exact ⟨2, h, by decide, by decide⟩
      · exact ⟨3, h, by decide, by decide⟩
      · exact ⟨4, h, by decide, by decide⟩
    have hB : (2 : Nat) ^ 5 = 32 := by decide
    refine ⟨v - 8, j, rfl, by omega, Nat.lt_of_lt_of_le (show j.natAbs < 2 ^ 5 by omega) (Nat.pow_le_pow_right (by decide) (by decide)), fun p np => ?_⟩
    have k3 := k1.trans ((Kp.of (Same.new nl)).trans k2)
    exact w _ _ _ _ (k3.trans (Kp.of (Same.new np))) (R3.same (Same.new np)) (red_B (by omega) (by omega) (by omega))
end
section
variable {P : Program} {w : World} {K : PySem.W.Frag} {mg : Str → Option Value} {base : Heap} {a : Ad}
def sp_l_letters (_ : PySem.W.Frag) : Sp := fun vs H Q _ => vs = [] ∧ Q (.str "abcdefghijklmnopqrstuvwxyz") H

theorem ok_l_letters (T : Txt K mg a) : FnOk P w K mg base CX0 1 a.f_l_letters a.fd_l_letters [] (sp_l_letters K) := by
  refine T.F_l_letters.ok sc_l_letters (fun vs H Q E h => ?_) (fun cdv A outer s H vs Q E hr h => ?_)
  · rw [h.1]; rfl
  · obtain ⟨rfl, w⟩ := h
    refine ⟨_, (pss_one (ps_ret pe_str)), ?_⟩
    exact w
end
section
variable {P : Program} {w : World} {K : PySem.W.Frag} {mg : Str → Option Value} {base : Heap} {a : Ad}
def sp_l_is_name (K : PySem.W.Frag) : Sp := fun vs H Q _ => ∃ z : Str, vs = [.str z] ∧ z.length ≤ 100000 ∧ ∀ H', Same H H' → Q (.bl (nameB z)) H'

theorem ok_l_is_name (T : Txt K mg a) : FnOk P w K mg base CX0 2 a.f_l_is_name a.fd_l_is_name ["_law_text"] (sp_l_is_name K) := by
  have G_l_letters := ok_l_letters (P := P) (w := w) (base := base) T
  refine T.F_l_is_name.ok sc_l_is_name (fun vs H Q E h => ?_) (fun cdv A outer s H vs Q E hr h => ?_)
  · obtain ⟨v, rfl, _⟩ := h
    rfl
  · obtain ⟨z, rfl, hz, w⟩ := h
    refine ⟨_, (pss_cons (ps_if (PW.pt (pw_or (pt_not (pt_chain op_le op_le pe_int (pe_callB call_len (by rfl) T.n_len (by decide +kernel) (pa_cons (pv 0) pa_nil)) pe_int)) (pw_or1 (pt_cmpR op_in_seq (pv 0) (pe_tup (pa_cons pe_str (pa_cons pe_str (pa_cons pe_str (pa_cons pe_str pa_nil))))) (by rfl))))) (pss_one (ps_ret pe_bl)) pss_nil)
          (pss_one (ps_ret (pe_callB (cr_all rfl) (by rfl) T.n_all (by decide +kernel) (pa_cons (pe_lc (own := [("_law_sign", 1)]) (g := gName 1) rfl sc_l_is_name.nd (pi_str (pv 0)) (blkOk_by (own := [("_law_sign", 1)]) (N := ["_law_text", "_law_sign"]) (sc := defScope s_l_is_name) (by decide +kernel)) (fun _ _ _ _ _ => (pg_name (i := 1) sc_l_is_name.nd rfl (Or.inl rfl))) (fun _ _ _ _ _ => pts_nil) (fun _ _ _ _ _ => (pe_cmpR op_in_sign (pv 1) (pe_call0 G_l_letters (hr.mono (by first | decide | omega)) (by rfl) T.g_l_letters T.F_l_letters.kp T.b_l_letters .nil pass0) (by rfl)))) pa_nil))))), ?_⟩
    have no : ∀ H', Same H H' → nameB z = false → Q (.bl false) H' := fun H' s e => by
      have := w H' s
      rw [e] at this
      exact this
    refine ⟨.str z, rfl, .str z, z.length, rfl, ⟨sz hz, rfl⟩, 1, (z.length : Int), rfl, rfl, _, rfl, ite2 (fun e1 => ?_) (fun e1 => ?_)⟩
    rotate_left
    · refine ⟨false, rfl, iteT (iteT (no H (Same.refl H) ?_))⟩
      have : ¬ 1 ≤ z.length := fun y => e1 (decide_eq_true (by omega))
      unfold nameB
      rw [decide_eq_false this]
      rfl
    have l1 : 1 ≤ z.length := by have := of_decide_eq_true e1; omega
    by_cases l2 : z.length ≤ 6
    rotate_left
    · refine ⟨(z.length : Int), 6, rfl, rfl, false, congrArg V.bl (decide_eq_false (by omega)), iteT (iteT (no H (Same.refl H) ?_))⟩
      unfold nameB
      rw [decide_eq_true l1, decide_eq_false l2]
      rfl
    refine ⟨(z.length : Int), 6, rfl, rfl, true, congrArg V.bl (decide_eq_true (by omega)), iteF ?_⟩
    refine ⟨.str z, rfl, sz (by show 4 ≤ 100000; decide), fun p np => ?_⟩
    have s0 := Same.new (o := .tup kws4) np
    refine ⟨p, kws4, rfl, .inr (SqT.of upd_same), rfl, rfl, _, rfl, ite2 (fun e => ?_) (fun e => ?_)⟩
    · refine no _ s0 ?_
      have e' : inV (.str z) kws4 = true := e
      unfold nameB
      rw [e', Bool.not_true, Bool.and_false, Bool.and_false]
    have e' : inV (.str z) kws4 = false := Bool.eq_false_iff.mpr e
    refine ⟨.str z, rfl, z, rfl, fun D nD => ?_⟩
    have nD0 : H D = none := s0.free nD
    refine ⟨fun i m H1 => i + m = z.length ∧ Same H H1 ∧ H1 D = some (.lst (((z.cps.toList.take i).map lowB).map V.bl)), ⟨z.length, by omega, s0.trans (Same.new nD), by rw [upd_same]; rfl⟩, fun i m H1 hW => ?_⟩
    obtain ⟨em, s1, hD⟩ := hW
    by_cases hi : i < z.length
    · refine .inr ⟨(show i < z.cps.size from hi), fun H2 => Same H H2 ∧ H2 D = some (.lst (((z.cps.toList.take (i + 1)).map lowB).map V.bl)), fun H2 hN => ⟨m - 1, by omega, by omega, hN.1, hN.2⟩, fun v H2 hy => ?_⟩
      obtain ⟨rfl, c, hc, rfl⟩ := hy
      have hc2 : z.cps.toList[i]? = some c := by rw [Array.getElem?_toList]; exact hc
      refine ⟨rfl, tYes_if ?_⟩
      refine ⟨.str ⟨#[c]⟩, rfl, rfl, c, "abcdefghijklmnopqrstuvwxyz", rfl, rfl, ?_⟩
      refine ⟨_, hD, ?_, fun x o e => ?_, ?_⟩
      · rw [List.length_map, List.length_map, List.length_take]
        exact szl (by omega)
      · rw [upd_ne (ne_of_none e nD0)]
        exact s1 _ _ e
      · rw [upd_same, abc_mem, tk_more hc2, List.map_append]
        rfl
    · have ei : i = z.length := by omega
      subst ei
      refine .inl ⟨(show z.cps.size ≤ z.length from Nat.le_refl _), ?_⟩
      rw [show z.cps.toList.take z.length = z.cps.toList by rw [← cps_len, List.take_length]] at hD
      refine ⟨D, z.cps.toList.map lowB, rfl, SqL.of hD, ?_⟩
      have ea : (z.cps.toList.map lowB).all id = z.cps.toList.all lowB := by rw [List.all_map]; rfl
      rw [ea]
      have := w H1 s1
      unfold nameB at this
      rw [decide_eq_true l1, decide_eq_true l2, e', Bool.not_false, Bool.and_true, Bool.and_true, Bool.true_and] at this
      exact this
end
section
variable {P : Program} {w : World} {K : PySem.W.Frag} {mg : Str → Option Value} {base : Heap} {a : Ad}
def sp_l_plain (K : PySem.W.Frag) : Sp := fun vs H Q _ => ∃ (l : Addr) (ss : List Str), vs = [.ref l] ∧ SqL K H l (ss.map V.str) ∧ ss.length ≤ 60 ∧ (∀ s ∈ ss, s.length ≤ 1000) ∧ ∀ (b : Bool) H', Same H H' → (b = true → ss.Nodup ∧ ∀ s ∈ ss, nameB s = true) → Q (.bl b) H'

theorem ok_l_plain (T : Txt K mg a) : FnOk P w K mg base CX0 3 a.f_l_plain a.fd_l_plain ["_law_names_here"] (sp_l_plain K) := by
  have G_l_is_name := ok_l_is_name (P := P) (w := w) (base := base) T
  refine T.F_l_plain.ok sc_l_plain (fun vs H Q E h => ?_) (fun cdv A outer s H vs Q E hr h => ?_)
  · obtain ⟨l, ss, rfl, _⟩ := h
    rfl
  · obtain ⟨l, ss, rfl, hS, hl, hs, w⟩ := h
    refine ⟨_, (pss_one (ps_ret (pe_and (pe_cmpR op_eq (StT.pe_lenSetT rfl (by rfl) T.n_len (by rfl) T.n_set (pv 0)) (pe_callB call_len (by rfl) T.n_len (by decide +kernel) (pa_cons (pv 0) pa_nil)) (nomark _)) (pe_one (pe_callB (cr_all rfl) (by rfl) T.n_all (by decide +kernel) (pa_cons (pe_lc (own := [("_law_name", 1)]) (g := gName 1) rfl sc_l_plain.nd (pi_list (pv 0)) (blkOk_by (own := [("_law_name", 1)]) (N := ["_law_names_here", "_law_name"]) (sc := defScope s_l_plain) (by decide +kernel)) (fun _ _ _ _ _ => (pg_name (i := 1) sc_l_plain.nd rfl (Or.inl rfl))) (fun _ _ _ _ _ => pts_nil) (fun _ _ _ _ _ => (pe_call G_l_is_name (hr.mono (by first | decide | omega)) (by rfl) T.g_l_is_name T.F_l_is_name.kp T.b_l_is_name .nil pass0 (pa_cons (pv 1) pa_nil)))) pa_nil)))))), ?_⟩
    refine ⟨.ref l, rfl, l, ss, rfl, hS, by omega, fun m m1 m2 => ?_⟩
    refine ⟨.ref l, rfl, .ref l, (ss.map V.str).length, rfl, .inl ⟨_, hS, rfl⟩, rfl, _, rfl, ite2 (fun e => ?_) (fun e => ?_)⟩
    rotate_left
    · exact w false H (Same.refl H) fun z => by cases z
    have em : m = ss.length := by
      have := V.int.inj (of_decide_eq_true e)
      rw [List.length_map] at this
      omega
    have nd := m2 em
    refine ⟨.ref l, rfl, l, rfl, ⟨_, hS⟩, fun D nD => ?_⟩
    refine lc_list (K := K) (a := l) (xs := ss.map V.str) (fun i H2 => Same H H2 ∧ H2 D = some (.lst (((ss.take i).map nameB).map V.bl))) ⟨Same.new nD, upd_same⟩ (fun i H2 _ z => z.1.seq hS) ?_ ?_
    · rintro i x H2 hx ⟨s2, hD⟩
      obtain ⟨q, hq, rfl⟩ : ∃ q, ss[i]? = some q ∧ x = V.str q := by
        rw [List.getElem?_map] at hx
        cases e : ss[i]? with
        | none => rw [e] at hx; cases hx
        | some q => rw [e] at hx; exact ⟨q, rfl, (Option.some.inj hx).symm⟩
      refine ⟨rfl, tYes_if ?_⟩
      have hql := hs q (List.mem_of_getElem? hq)
      refine ⟨.str q, rfl, q, rfl, by omega, fun H3 s3 => ⟨_, s3 _ _ hD, ?_, fun b o z => ?_, ?_⟩⟩
      · rw [List.length_map, List.length_map, List.length_take]; exact szl (by omega)
      · rw [upd_ne (ne_of_none z nD)]; exact s3 _ _ (s2 _ _ z)
      · rw [upd_same, tk_more hq, List.map_append]; rfl
    · rintro H2 ⟨s2, hD⟩
      rw [List.length_map, List.take_length] at hD
      refine ⟨D, ss.map nameB, rfl, SqL.of hD, ?_⟩
      refine w _ H2 s2 fun z => ⟨nd, fun s hs' => ?_⟩
      rw [List.all_map, List.all_eq_true] at z
      exact z s hs'
end
section
variable {P : Program} {w : World} {K : PySem.W.Frag} {mg : Str → Option Value} {base : Heap} {a : Ad}
def sp_l_names (K : PySem.W.Frag) : Sp := fun vs H Q _ => ∃ (r : Addr) (q : Nat), vs = [.ref r, .int (q : Nat)] ∧ Rg H r ∧ 1 ≤ q ∧ q ≤ 8 ∧ ∀ (l : Addr) (H' : Hp) (ss : List Str), Kp r H H' → Rg H' r → H' l = some (.lst (ss.map V.str)) → l ≠ r → ss.length = q → ss.Nodup → (∀ s ∈ ss, nameB s = true) → Q (.ref l) H'
theorem jn_len : ∀ (ys : List Str), (∀ y ∈ ys, y.length = 1) → (Txt.join "" ys).length = ys.length
  | ys, h => by
    rw [TL.join_eq]
    induction ys with
    | nil => rfl
    | cons y r ih =>
      cases r with
      | nil => exact h y List.mem_cons_self
      | cons z r =>
        have i1 := ih (fun x hx => h x (List.mem_cons_of_mem _ hx))
        show (y ++ "" ++ Str.join "" (z :: r)).length = _
        rw [Str.length_append, Str.length_append, i1, h y List.mem_cons_self]
        show 1 + 0 + (z :: r).length = (y :: z :: r).length
        rw [List.length_cons, List.length_cons, List.length_cons]
        omega
theorem ones_sum : ∀ (ys : List Str), (∀ y ∈ ys, y.length = 1) → (ys.map (·.length)).sum = ys.length
  | [], _ => rfl
  | y :: r, h => by
    rw [List.map_cons, List.sum_cons, ones_sum r (fun x hx => h x (List.mem_cons_of_mem _ hx)), h y List.mem_cons_self, List.length_cons]
    omega
def spare : List Str := ["a", "bb", "ccc", "dddd", "eeeee", "ffffff", "g", "hh"]
theorem spare_nd : spare.Nodup := by decide +kernel
theorem spare_nm : ∀ s ∈ spare, nameB s = true := by decide +kernel
theorem cut_to (xs : List V) (q : Nat) (h : q ≤ xs.length) : cutV xs none (some (q : Int)) = xs.take q := by
  unfold cutV
  rw [HT.sIx_none, show HT.sIx xs.length xs.length (some (q : Int)) = min q xs.length from HT.sIx_nat xs.length xs.length q, List.drop_zero, show min q xs.length - 0 = q by omega]

theorem ok_l_names (T : Txt K mg a) : FnOk P w K mg base CX0 4 a.f_l_names a.fd_l_names ["_law_rng", "_law_quantity"] (sp_l_names K) := by
  have G_l_choice := ok_l_choice (P := P) (w := w) (base := base) T
  have G_l_letters := ok_l_letters (P := P) (w := w) (base := base) T
  have G_l_draw := ok_l_draw (P := P) (w := w) (base := base) T
  have G_l_plain := ok_l_plain (P := P) (w := w) (base := base) T
  refine T.F_l_names.ok sc_l_names (fun vs H Q E h => ?_) (fun cdv A outer s H vs Q E hr h => ?_)
  · obtain ⟨r, q, rfl, _⟩ := h
    rfl
  · obtain ⟨r, q, rfl, R, q1, q8, w⟩ := h
    refine ⟨_, (pss_cons (ps_asg (pe_tup (pa_cons (pe_call0 G_l_letters (hr.mono (by first | decide | omega)) (by rfl) T.g_l_letters T.F_l_letters.kp T.b_l_letters .nil pass0) (pa_cons (pe_op op_add pe_int (pe_call G_l_draw (hr.mono (by first | decide | omega)) (by rfl) T.g_l_draw T.F_l_draw.kp T.b_l_draw .nil pass0 (pa_cons (pv 0) (pa_cons pe_int pa_nil)))) pa_nil))) (pg_tup rfl (pgs_cons (pg_name (i := 2) sc_l_names.nd rfl (by first | exact Or.inl rfl | exact Or.inr rfl)) (pgs_cons (pg_name (i := 3) sc_l_names.nd rfl (by first | exact Or.inl rfl | exact Or.inr rfl)) pgs_nil))))
          (pss_cons (ps_par (i := 4) (j := 5) (by rfl) sc_l_names.nd rfl rfl (by decide) rfl rfl (pa_cons (pe_call G_l_draw (hr.mono (by first | decide | omega)) (by rfl) T.g_l_draw T.F_l_draw.kp T.b_l_draw .nil pass0 (pa_cons (pv 0) (pa_cons (pv 3) pa_nil))) (pa_cons (pe_call G_l_draw (hr.mono (by first | decide | omega)) (by rfl) T.g_l_draw T.F_l_draw.kp T.b_l_draw .nil pass0 (pa_cons (pv 0) (pa_cons pe_int pa_nil))) pa_nil)) (by rfl))
          (pss_cons (ps_set (i := 6) sc_l_names.nd rfl (by first | exact Or.inl rfl | exact Or.inr rfl) (pe_call G_l_choice (hr.mono (by first | decide | omega)) (by rfl) T.g_l_choice T.F_l_choice.kp T.b_l_choice .nil pass0 (pa_cons (pv 0) (pa_cons (pe_lst (pa_cons pe_int (pa_cons pe_int (pa_cons pe_int (pa_cons pe_int (pa_cons pe_int pa_nil)))))) pa_nil))))
          (pss_cons (ps_set (i := 7) sc_l_names.nd rfl (by first | exact Or.inl rfl | exact Or.inr rfl) (pe_join pe_str (pe_lc (own := [("_law_k", 9)]) (g := gName 9) rfl sc_l_names.nd (pi_range1 (by rfl) T.n_range (pa_cons (pv 3) pa_nil)) (blkOk_by (own := [("_law_k", 9)]) (N := ["_law_rng", "_law_quantity", "_law_abc", "_law_width", "_law_pos", "_law_lead", "_law_step", "_law_base", "_law_result", "_law_k", "_law_sign", "_law_name", "_law_cut", "_law_spare"]) (sc := defScope s_l_names) (by decide +kernel)) (fun _ _ _ _ _ => (pg_name (i := 9) sc_l_names.nd rfl (Or.inl rfl))) (fun _ _ _ _ _ => pts_nil) (fun _ _ _ _ _ => (pe_call G_l_choice (hr.mono (by first | decide | omega)) (by rfl) T.g_l_choice T.F_l_choice.kp T.b_l_choice .nil pass0 (pa_cons (pv 0) (pa_cons (pv 2) pa_nil)))))))
          (pss_cons (ps_set (i := 8) sc_l_names.nd rfl (by first | exact Or.inl rfl | exact Or.inr rfl) (pe_lst pa_nil))
          (pss_cons (ps_for PassesOwn.never rfl (pi_range1 (by rfl) T.n_range (pa_cons (pv 1) pa_nil)) (pg_name (i := 9) sc_l_names.nd rfl (by first | exact Or.inl rfl | exact Or.inr rfl)) (pss_cons (ps_set (i := 10) sc_l_names.nd rfl (by first | exact Or.inl rfl | exact Or.inr rfl) (pe_ix ix_str (pv 2) (pe_op op_mod (pe_op op_add (pv 5) (pe_op op_mul (pv 6) (pv 9))) pe_int) (fun _ _ => rfl)))
          (pss_cons (ps_set (i := 11) sc_l_names.nd rfl (by first | exact Or.inl rfl | exact Or.inr rfl) (pe_op op_add_str (pe_op op_add_str (pe_slice sl_str (pv 7) po_none (po_some (pv 4))) (pv 10)) (pe_slice sl_str (pv 7) (po_some (pe_op op_add (pv 4) pe_int)) po_none)))
          (pss_cons (ps_set (i := 12) sc_l_names.nd rfl (by first | exact Or.inl rfl | exact Or.inr rfl) (pe_callB (call_max2 rfl) (by rfl) T.n_max (by decide +kernel) (pa_cons (pe_op op_add (pv 4) pe_int) (pa_cons (pe_op op_sub (pv 3) (pv 9)) pa_nil))))
          (pss_one (ps_expr (pe_bm PySem.F.plainAttrs_list PySem.F.slot_list_append PySem.F.type_list_append mt_append (pv 8) (pa_cons (pe_ifExp (pt_cmpR op_eq (pe_call G_l_draw (hr.mono (by first | decide | omega)) (by rfl) T.g_l_draw T.F_l_draw.kp T.b_l_draw .nil pass0 (pa_cons (pv 0) (pa_cons pe_int pa_nil))) pe_int (nomark _)) (pe_slice sl_str (pv 11) po_none (po_some (pv 12))) (pv 11)) pa_nil))))))))
          (pss_cons (ps_set (i := 13) sc_l_names.nd rfl (by first | exact Or.inl rfl | exact Or.inr rfl) (pe_lst (pa_cons pe_str (pa_cons pe_str (pa_cons pe_str (pa_cons pe_str (pa_cons pe_str (pa_cons pe_str (pa_cons pe_str (pa_cons pe_str pa_nil))))))))))
          (pss_one (ps_ret (pe_ifExp (pt_val (pe_call G_l_plain (hr.mono (by first | decide | omega)) (by rfl) T.g_l_plain T.F_l_plain.kp T.b_l_plain .nil pass0 (pa_cons (pv 8) pa_nil))) (pv 8) (pe_slice sl_list (pv 13) po_none (po_some (pv 1))))))))))))), ?_⟩
    have B40 : True := trivial
    refine ⟨rfl, .ref r, rfl, r, 6, rfl, R, by decide, by decide, fun wd H1 w0 w1 k1 R1 => ⟨1, wd, rfl, rfl, sz (by show 2 ≤ 100000; decide), fun tp ntp => ?_⟩⟩
    have st := Same.new (o := .tup [.str "abcdefghijklmnopqrstuvwxyz", .int (1 + wd)]) ntp
    refine ⟨tp, _, rfl, SqT.of upd_same, rfl, _, _, rfl, _, _, rfl, rfl, ?_⟩
    generalize upd H1 tp (.tup [.str "abcdefghijklmnopqrstuvwxyz", .int (1 + wd)]) = H2 at st
    have R2 := R1.same st
    have k2 := k1.trans (Kp.of st)
    refine ⟨.ref r, rfl, .int (1 + wd), rfl, r, 1 + wd, rfl, R2, by omega, by omega, fun ps H3 p0 p1 k3 R3 => ?_⟩
    refine ⟨.ref r, rfl, r, 26, rfl, R3, by decide, by decide, fun ld H4 l0 l1 k4 R4 => ?_⟩
    refine ⟨_, _, rfl, ?_⟩
    refine ⟨.ref r, rfl, sz (by show 5 ≤ 100000; decide), fun cl ncl => ?_⟩
    have sc := Same.new (o := .lst [.int 1, .int 3, .int 5, .int 7, .int 9]) ncl
    refine ⟨r, .ref cl, _, rfl, R4.same sc, .inl ⟨cl, rfl, R4.ne ncl, .inl (SqL.of upd_same)⟩, by show 0 < 5; decide, by show 5 ≤ 100000; decide, fun x hx H5 k5 R5 => ?_⟩
    obtain ⟨sp, rfl, sp0, sp1⟩ : ∃ j : Int, x = .int j ∧ 0 ≤ j ∧ j < 10 := by
      simp only [List.mem_cons, List.not_mem_nil, or_false] at hx
      rcases hx with h | h | h | h | h
      · exact ⟨1, h, by decide, by decide⟩
      · exact ⟨3, h, by decide, by decide⟩
      · exact ⟨5, h, by decide, by decide⟩
      · exact ⟨7, h, by decide, by decide⟩
      · exact ⟨9, h, by decide, by decide⟩
    have k05 := (k2.trans (k3.trans k4)).trans ((Kp.of sc).trans k5)
    -- the base
    refine ⟨⟨_, rfl⟩, .int (1 + wd), rfl, 1 + wd, rfl, by omega, by omega, fun D nD => ?_⟩
    have Dr : D ≠ r := R5.ne nD
    refine ⟨fun i m H6 => i + m = (1 + wd).toNat ∧ Kp r H5 H6 ∧ Rg H6 r ∧ ∃ ys : List Str, H6 D = some (.lst (ys.map V.str)) ∧ ys.length = i ∧ ∀ y ∈ ys, y.length = 1, ⟨(1 + wd).toNat, by omega, Kp.of (Same.new nD), R5.same (Same.new nD), [], upd_same, rfl, fun y hy => by cases hy⟩, fun i m H6 hW => ?_⟩
    obtain ⟨em, k6, R6, ys, hD, hyl, hy1⟩ := hW
    by_cases hi : i < (1 + wd).toNat
    · refine .inr ⟨hi, fun H7 => Kp r H5 H7 ∧ Rg H7 r ∧ ∃ ys : List Str, H7 D = some (.lst (ys.map V.str)) ∧ ys.length = i + 1 ∧ ∀ y ∈ ys, y.length = 1, fun H7 hN => ⟨m - 1, by omega, by omega, hN⟩, fun v H7 hy => ?_⟩
      obtain ⟨rfl, rfl⟩ := hy
      refine ⟨rfl, tYes_if ?_⟩
      refine ⟨.ref r, rfl, .str "abcdefghijklmnopqrstuvwxyz", rfl, r, .str "abcdefghijklmnopqrstuvwxyz", _, rfl, R6, .inr ⟨_, rfl, rfl⟩, by decide +kernel, by decide +kernel, fun x hx H8 k8 R8 => ?_⟩
      obtain ⟨c, _, rfl⟩ := List.mem_map.mp hx
      refine ⟨_, k8.1 _ _ Dr hD, by rw [List.length_map]; exact szl (by omega), (k6.trans k8).put (H := H5) nD Dr, R5.put nD (k6.trans k8) R8, ys ++ [⟨#[c]⟩], ?_, ?_, ?_⟩
      · rw [upd_same, List.map_append]; rfl
      · rw [List.length_append, hyl]; rfl
      · intro y hy
        rcases List.mem_append.mp hy with h | h
        · exact hy1 y h
        · rw [List.mem_singleton.mp h]; rfl
    have ei : i = (1 + wd).toNat := by omega
    subst ei
    refine .inl ⟨Nat.le_refl _, _, D, ys, rfl, rfl, .inl (SqL.of hD), ?_, ?_⟩
    · rw [ones_sum ys hy1]
      show ys.length + ys.length * 0 ≤ _
      omega
    have jl : (Txt.join "" ys).length = (1 + wd).toNat := by rw [jn_len ys hy1, hyl]
    generalize Txt.join "" ys = bs at jl
    have la := Str.length_append
    -- the names
    refine ⟨sz (by show 0 ≤ 100000; decide), fun rl nrl => ?_⟩
    have rlr : rl ≠ r := R6.ne nrl
    have sr := Same.new (o := .lst []) nrl
    refine ⟨.int (q : Nat), rfl, (q : Int), rfl, by omega, by omega, ?_⟩
    rw [Int.toNat_natCast]
    refine for_range (n := q) (fun i σ H7 => ∃ y9 y10 y11 y12, σ = [some (.ref r), some (.int (q : Nat)), some (.str "abcdefghijklmnopqrstuvwxyz"), some (.int (1 + wd)), some (.int ps), some (.int ld), some (.int sp), some (.str bs), some (.ref rl), y9, y10, y11, y12, none] ∧ Kp r H6 H7 ∧ Rg H7 r ∧ ∃ ss : List Str, H7 rl = some (.lst (ss.map V.str)) ∧ ss.length = i ∧ ∀ s ∈ ss, s.length ≤ 20) ⟨none, none, none, none, rfl, Kp.of sr, R6.same sr, [], upd_same, rfl, fun s hs => by cases hs⟩ ?_ ?_
    · rintro i σ H7 hi7 ⟨y9, y10, y11, y12, rfl, k7, R7, ss, hrl, hsl, hs⟩
      have z0 : 0 ≤ (ld + sp * (0 + (i : Int))) % 26 := Int.emod_nonneg _ (by decide)
      have z1 : (ld + sp * (0 + (i : Int))) % 26 < 26 := Int.emod_lt_of_pos _ (by decide)
      obtain ⟨c, hc, _⟩ := at_int (xs := (("abcdefghijklmnopqrstuvwxyz" : Str)).cps.toList) z0 (by rw [show (("abcdefghijklmnopqrstuvwxyz" : Str)).cps.toList.length = 26 by decide +kernel]; exact z1)
      refine ⟨.str "abcdefghijklmnopqrstuvwxyz", rfl, .int ld, rfl, .int sp, rfl, .int (0 + (i : Int)), rfl, sp, _, rfl, rfl, .inl ⟨by omega, by omega⟩, ld, _, rfl, rfl, _, 26, rfl, rfl, (show (0 : Int) < 26 by decide), _, _, c, rfl, rfl, by decide +kernel, hc, ?_⟩
      have c1 := cutS_length bs none (some ps)
      have c2 := cutS_length bs (some (ps + 1)) none
      have o1 : (⟨#[c]⟩ : Str).length = 1 := rfl
      refine ⟨.str bs, rfl, .int ps, rfl, ps, rfl, bs, rfl, sz (by omega), .str ⟨#[c]⟩, rfl, _, _, rfl, rfl, sz (by omega), .str bs, rfl, .int ps, rfl, _, _, rfl, rfl, _, rfl, bs, rfl, sz (by omega), _, _, rfl, rfl, sz (by rw [la]; omega), ?_⟩
      have nl : (cutS bs none (some ps) ++ ⟨#[c]⟩ ++ cutS bs (some (ps + 1)) none).length ≤ 20 := by rw [la, la]; omega
      generalize cutS bs none (some ps) ++ ⟨#[c]⟩ ++ cutS bs (some (ps + 1)) none = nm at nl
      refine ⟨.int ps, rfl, _, _, rfl, rfl, .int (1 + wd), rfl, .int (0 + (i : Int)), rfl, _, _, rfl, rfl, _, _, rfl, ?_⟩
      have c3 := fun j => cutS_length nm none (some j)
      have fin : ∀ (v : Str) (H8 : Hp), v.length ≤ 20 → Kp r H7 H8 → Rg H8 r → rAppend (.ref rl) [.str v] H8 (fun _ H9 => ∃ (y9 y10 y11 y12 : Option V), ([some (.ref r), some (.int (q : Nat)), some (.str "abcdefghijklmnopqrstuvwxyz"), some (.int (1 + wd)), some (.int ps), some (.int ld), some (.int sp), some (.str bs), some (.ref rl), some (.int (0 + (i : Int))), some (.str ⟨#[c]⟩), some (.str nm), some (.int (if 1 + wd - (0 + (i : Int)) > ps + 1 then 1 + wd - (0 + (i : Int)) else ps + 1)), none] : List (Option V)) = [some (.ref r), some (.int (q : Nat)), some (.str "abcdefghijklmnopqrstuvwxyz"), some (.int (1 + wd)), some (.int ps), some (.int ld), some (.int sp), some (.str bs), some (.ref rl), y9, y10, y11, y12, none] ∧ Kp r H6 H9 ∧ Rg H9 r ∧ ∃ ss : List Str, H9 rl = some (.lst (ss.map V.str)) ∧ ss.length = i + 1 ∧ ∀ s ∈ ss, s.length ≤ 20) := by
        intro v H8 lv k8 R8
        have h8 := k8.1 _ _ rlr hrl
        refine ⟨rl, _, _, rfl, rfl, h8, by rw [List.length_map]; exact szl (by omega), _, _, _, _, rfl, (k7.trans k8).put (H := H6) nrl rlr, R6.put nrl (k7.trans k8) R8, ss ++ [v], by rw [upd_same, List.map_append]; rfl, by rw [List.length_append, hsl]; rfl, fun s hs' => ?_⟩
        rcases List.mem_append.mp hs' with z | z
        · exact hs s z
        · rw [List.mem_singleton.mp z]; exact lv
      refine ⟨.ref rl, rfl, .inl ⟨rfl, _, SqL.of hrl⟩, .ref r, rfl, r, 3, rfl, R7, by decide, by decide, fun z H8 y0 y1 k8 R8 => ⟨rfl, _, rfl, ite2 (fun e => ?_) (fun e => ?_)⟩⟩
      · exact ⟨.str nm, rfl, .int _, rfl, _, rfl, nm, rfl, sz (by omega), fin _ H8 (Nat.le_trans (c3 _) nl) k8 R8⟩
      · exact ⟨.str nm, rfl, fin _ H8 nl k8 R8⟩
    · rintro σ H7 ⟨y9, y10, y11, y12, rfl, k7, R7, ss, hrl, hsl, hs⟩
      refine ⟨sz (by show 8 ≤ 100000; decide), fun sl nsl => ?_⟩
      have ssl := Same.new (o := .lst (spare.map V.str)) nsl
      have R8 : Rg (upd H7 sl (.lst (spare.map V.str))) r := R7.same ssl
      have k07 := (k05.trans k6).trans (k7.trans (Kp.of ssl))
      refine ⟨.ref rl, rfl, rl, ss, rfl, SqL.of (ssl _ _ hrl), by omega, fun s h => Nat.le_trans (hs s h) (by decide), fun b H8 s8 hb => ⟨b, rfl, ?_⟩⟩
      cases b with
      | true =>
        obtain ⟨n1, n2⟩ := hb rfl
        exact iteT ⟨.ref rl, rfl, w rl H8 ss (k07.trans (Kp.of s8)) (R8.same s8) (s8 _ _ (ssl _ _ hrl)) rlr (by omega) n1 n2⟩
      | false =>
        refine iteF ⟨.ref sl, rfl, .int (q : Nat), rfl, (q : Int), rfl, sl, _, rfl, SqL.of (s8 _ _ upd_same), fun p np => ?_⟩
        rw [cut_to _ q (by show q ≤ 8; exact q8)]
        have sp9 := Same.new (o := .lst ((spare.map V.str).take q)) np
        refine w p _ (spare.take q) ((k07.trans (Kp.of s8)).trans (Kp.of sp9)) ((R8.same s8).same sp9) (by rw [upd_same, List.map_take]; rfl) ((R8.same s8).ne np) ?_ ?_ fun s h => spare_nm s (List.mem_of_mem_take h)
        · rw [List.length_take]
          show min q 8 = q
          omega
        · exact spare_nd.sublist (List.take_sublist _ _)
end
section
variable {P : Program} {w : World} {K : PySem.W.Frag} {mg : Str → Option Value} {base : Heap} {a : Ad}
def sp_l_operands (K : PySem.W.Frag) : Sp := spSubs K

theorem ok_l_operands (T : Txt K mg a) : FnOk P w K mg base CX0 1 a.f_l_operands a.fd_l_operands ["_law_term_here"] (sp_l_operands K) := by
  refine T.F_l_operands.ok sc_l_operands (fun vs H Q E h => ?_) (fun cdv A outer s H vs Q E hr h => ?_)
  · obtain ⟨v, t, n, rfl, _⟩ := h
    rfl
  · obtain ⟨v, t, n, rfl, ht, ar, w⟩ := h
    refine ⟨_, (pss_cons (ps_if (pt_cmpR op_eq (pe_ix ix_tup (pv 0) pe_int (fun _ _ => rfl)) pe_str (nomark _)) (pss_one (ps_ret (pe_lst pa_nil))) pss_nil)
          (pss_cons (ps_if (pt_cmpR op_eq (pe_ix ix_tup (pv 0) pe_int (fun _ _ => rfl)) pe_str (nomark _)) (pss_one (ps_ret (pe_lst (pa_cons (pe_ix ix_tup (pv 0) pe_int (fun _ _ => rfl)) pa_nil)))) pss_nil)
          (pss_cons (ps_if (pt_cmpR op_eq (pe_ix ix_tup (pv 0) pe_int (fun _ _ => rfl)) pe_str (nomark _)) (pss_one (ps_ret (pe_lc (own := [("_law_share", 1), ("_law_one", 2)]) (g := gTup K 2 (gCons (gName 1) (gCons (gName 2) gNil))) rfl sc_l_operands.nd (pi_tup (pe_slice sl_tup (pv 0) (po_some pe_int) po_none)) (blkOk_by (own := [("_law_share", 1), ("_law_one", 2)]) (N := ["_law_term_here", "_law_share", "_law_one"]) (sc := defScope s_l_operands) (by decide +kernel)) (fun _ _ _ _ _ => (pg_tup rfl (pgs_cons (pg_name (i := 1) sc_l_operands.nd rfl (Or.inl rfl)) (pgs_cons (pg_name (i := 2) sc_l_operands.nd rfl (Or.inl rfl)) pgs_nil)))) (fun _ _ _ _ _ => pts_nil) (fun _ _ _ _ _ => (pv 2))))) pss_nil)
          (pss_one (ps_ret (pe_callTy call_list_of (by rfl) T.n_list (by decide +kernel) (pa_cons (pe_slice sl_tup (pv 0) (po_some pe_int) po_none) pa_nil))))))), ?_⟩
    cases t with
    | ev s =>
      obtain ⟨p, rfl, hp⟩ := ht
      refine ⟨.ref p, rfl, p, _, 0, _, rfl, rfl, hp, atI_nat (j := 0) rfl, rfl, _, rfl, ifT (decide_eq_true rfl) ?_⟩
      exact ⟨sz (by show 0 ≤ 100000; decide), fun l nl => w l _ [] (Same.new nl) nl upd_same All2.nil⟩
    | nd k ts =>
      obtain ⟨xs, hN, hA⟩ := ht
      have hlen := hA.1
      have ar1 : 1 ≤ ts.length := ar.1
      have ar2 : ts.length ≤ 60 := ar.2
      cases k with
      | delay f =>
        obtain ⟨p, x, fv, rfl, rfl, hp, _⟩ := hN
        refine ⟨.ref p, rfl, p, _, 0, _, rfl, rfl, hp, atI_nat (j := 0) rfl, rfl, _, rfl, ifF (str_no (by decide +kernel)) ⟨.ref p, rfl, p, _, 0, _, rfl, rfl, hp, atI_nat (j := 0) rfl, rfl, _, rfl, ifT (decide_eq_true rfl) ?_⟩⟩
        exact ⟨.ref p, rfl, p, _, 1, _, rfl, rfl, hp, rfl, sz (by show 1 ≤ 100000; decide), fun l nl => w l _ [x] (Same.new nl) nl upd_same (hA.mono fun _ _ z => z.same (Same.new nl))⟩
      | mix ws =>
        obtain ⟨p, ys, rfl, hp, l1, l2, hm⟩ := hN
        refine ⟨.ref p, rfl, p, _, 0, _, rfl, rfl, hp, atI_nat (j := 0) rfl, rfl, _, rfl, ifF (str_no (by decide +kernel)) ⟨.ref p, rfl, p, _, 0, _, rfl, rfl, hp, atI_nat (j := 0) rfl, rfl, _, rfl, ifF (str_no (by decide +kernel)) ⟨.ref p, rfl, p, _, 0, _, rfl, rfl, hp, atI_nat (j := 0) rfl, rfl, _, rfl, ifT (decide_eq_true rfl) ?_⟩⟩⟩
        refine ⟨.ref p, rfl, 1, rfl, p, _, rfl, hp, not_whole _ _, fun c nc => ?_⟩
        rw [cut_one]
        have sc := Same.new (o := .tup ys) nc
        refine ⟨c, rfl, ⟨_, SqT.of upd_same⟩, fun D nD => ?_⟩
        have nD0 : H D = none := sc.free nD
        have cD : c ≠ D := ne_of_none upd_same nD
        refine lc_tup (K := K) (a := c) (xs := ys) (fun i H1 => Same H H1 ∧ H1 c = some (.tup ys) ∧ H1 D = some (.lst (xs.take i))) ⟨sc.trans (Same.new nD), by rw [upd_ne cD]; exact upd_same, upd_same⟩ (fun i H1 _ h1 => SqT.of h1.2.1) ?_ ?_
        · rintro i y H1 hy ⟨s1, hc, hD⟩
          obtain ⟨x, q, wv, f, hx, hf, rfl, hq, _⟩ := mix_at l1 l2 hm hy
          have hq1 := Same.T s1 hq
          refine ⟨q, _, rfl, hq1, rfl, _, _, rfl, _, _, rfl, rfl, rfl, tYes_if ?_⟩
          refine ⟨_, rfl, ?_⟩
          refine ⟨_, hD, ?_, fun b o e => ?_, ?_, ?_⟩
          · rw [List.length_take]; exact szl (by omega)
          · rw [upd_ne (ne_of_none e nD0)]; exact s1 _ _ e
          · rw [upd_ne cD]; exact hc
          · rw [upd_same, List.take_add_one, hx]; rfl
        · rintro H1 ⟨s1, hc, hD⟩
          rw [show ys.length = xs.length from l1, List.take_length] at hD
          exact w D H1 xs s1 nD0 hD (hA.mono fun _ _ z => z.same s1)
      | max =>
        obtain ⟨p, rfl, hp⟩ := hN
        refine ⟨.ref p, rfl, p, _, 0, _, rfl, rfl, hp, atI_nat (j := 0) rfl, rfl, _, rfl, ifF (str_no (by decide +kernel)) ⟨.ref p, rfl, p, _, 0, _, rfl, rfl, hp, atI_nat (j := 0) rfl, rfl, _, rfl, ifF (str_no (by decide +kernel)) ⟨.ref p, rfl, p, _, 0, _, rfl, rfl, hp, atI_nat (j := 0) rfl, rfl, _, rfl, ifF (str_no (by decide +kernel)) ?_⟩⟩⟩
        refine ⟨.ref p, rfl, 1, rfl, p, _, rfl, hp, not_whole _ _, fun c nc => ?_⟩
        rw [cut_one]
        have sc := Same.new (o := .tup xs) nc
        refine ⟨c, xs, rfl, .inr (SqT.of upd_same), fun l nl => ?_⟩
        have s2 := sc.trans (Same.new (o := .lst xs) nl)
        exact w l _ xs s2 (sc.free nl) upd_same (hA.mono fun _ _ z => z.same s2)
      | min =>
        obtain ⟨p, rfl, hp⟩ := hN
        refine ⟨.ref p, rfl, p, _, 0, _, rfl, rfl, hp, atI_nat (j := 0) rfl, rfl, _, rfl, ifF (str_no (by decide +kernel)) ⟨.ref p, rfl, p, _, 0, _, rfl, rfl, hp, atI_nat (j := 0) rfl, rfl, _, rfl, ifF (str_no (by decide +kernel)) ⟨.ref p, rfl, p, _, 0, _, rfl, rfl, hp, atI_nat (j := 0) rfl, rfl, _, rfl, ifF (str_no (by decide +kernel)) ?_⟩⟩⟩
        refine ⟨.ref p, rfl, 1, rfl, p, _, rfl, hp, not_whole _ _, fun c nc => ?_⟩
        rw [cut_one]
        have sc := Same.new (o := .tup xs) nc
        refine ⟨c, xs, rfl, .inr (SqT.of upd_same), fun l nl => ?_⟩
        have s2 := sc.trans (Same.new (o := .lst xs) nl)
        exact w l _ xs s2 (sc.free nl) upd_same (hA.mono fun _ _ z => z.same s2)
      | median =>
        obtain ⟨p, rfl, hp⟩ := hN
        refine ⟨.ref p, rfl, p, _, 0, _, rfl, rfl, hp, atI_nat (j := 0) rfl, rfl, _, rfl, ifF (str_no (by decide +kernel)) ⟨.ref p, rfl, p, _, 0, _, rfl, rfl, hp, atI_nat (j := 0) rfl, rfl, _, rfl, ifF (str_no (by decide +kernel)) ⟨.ref p, rfl, p, _, 0, _, rfl, rfl, hp, atI_nat (j := 0) rfl, rfl, _, rfl, ifF (str_no (by decide +kernel)) ?_⟩⟩⟩
        refine ⟨.ref p, rfl, 1, rfl, p, _, rfl, hp, not_whole _ _, fun c nc => ?_⟩
        rw [cut_one]
        have sc := Same.new (o := .tup xs) nc
        refine ⟨c, xs, rfl, .inr (SqT.of upd_same), fun l nl => ?_⟩
        have s2 := sc.trans (Same.new (o := .lst xs) nl)
        exact w l _ xs s2 (sc.free nl) upd_same (hA.mono fun _ _ z => z.same s2)
end
section
variable {P : Program} {w : World} {K : PySem.W.Frag} {mg : Str → Option Value} {base : Heap} {a : Ad}
def sp_l_size (K : PySem.W.Frag) : Sp := spSize K 12

theorem ok_l_size_n (T : Txt K mg a) : ∀ n, FnOk P w K mg base CX0 (n + 1) a.f_l_size a.fd_l_size ["_law_term_here"] (spSize K n)
  | 0 => fn_false
  | n + 1 => by
    have G_l_operands := ok_l_operands (P := P) (w := w) (base := base) T
    have G_l_size := ok_l_size_n T n
    refine T.F_l_size.ok sc_l_size (fun vs H Q E h => ?_) (fun cdv A outer s H vs Q E hr h => ?_)
    · obtain ⟨v, t, rfl, _⟩ := h
      rfl
    obtain ⟨v, t, rfl, ht, ar, w⟩ := h
    refine ⟨_, (pss_one (ps_ret (pe_op op_add pe_int (pe_callB (cr_sum rfl) (by rfl) T.n_sum (by decide +kernel) (pa_cons (pe_lc (own := [("_law_one", 1)]) (g := gName 1) rfl sc_l_size.nd (pi_list (pe_call G_l_operands (hr.mono (by first | decide | omega)) (by rfl) T.g_l_operands T.F_l_operands.kp T.b_l_operands .nil pass0 (pa_cons (pv 0) pa_nil))) (blkOk_by (own := [("_law_one", 1)]) (N := ["_law_term_here", "_law_one"]) (sc := defScope s_l_size) (by decide +kernel)) (fun _ _ _ _ _ => (pg_name (i := 1) sc_l_size.nd rfl (Or.inl rfl))) (fun _ _ _ _ _ => pts_nil) (fun _ _ _ _ _ => (pe_call G_l_size (hr.mono (by first | decide | omega)) (by rfl) T.g_l_size T.F_l_size.kp T.b_l_size .nil pass0 (pa_cons (pv 1) pa_nil)))) pa_nil))))), ?_⟩
    refine ⟨v, rfl, v, t, n, rfl, ht, ar.ok, fun l H1 xs s1 nl hl hA => ?_⟩
    refine ⟨l, rfl, ⟨_, SqL.of hl⟩, fun D nD => ?_⟩
    have xl : xs.length ≤ 60 := by rw [hA.1]; exact ar.len
    refine lc_list (K := K) (a := l) (xs := xs) (fun i H2 => Same H1 H2 ∧ H2 D = some (.lst (((t.subs.take i).map fun u => (u.size : Int)).map V.int))) ⟨Same.new nD, upd_same⟩ (fun i H2 _ z => SqL.of (z.1 _ _ hl)) ?_ ?_
    · rintro i x H2 hx ⟨s2, hD⟩
      obtain ⟨u, hu, tu⟩ := hA.at hx
      have il : i < xs.length := (List.getElem?_eq_some_iff.mp hx).1
      refine ⟨rfl, tYes_if ?_⟩
      refine ⟨x, rfl, ?_⟩
      cases n with
      | zero => exact tu.elim
      | succ n =>
        refine ⟨x, u, rfl, tu.same s2, ar.sub (List.mem_of_getElem? hu), fun H3 s3 => ⟨_, s3 _ _ hD, ?_, fun b o e => ?_, ?_⟩⟩
        · rw [List.length_map, List.length_map, List.length_take]; exact szl (by omega)
        · rw [upd_ne (ne_of_none e nD)]; exact s3 _ _ (s2 _ _ e)
        · rw [upd_same, List.take_add_one, hu, List.map_append, List.map_append]; rfl
    · rintro H2 ⟨s2, hD⟩
      rw [hA.1, List.take_length] at hD
      refine ⟨D, _, rfl, SqL.of hD, 1, _, rfl, rfl, ?_⟩
      have e : (1 : Int) + (t.subs.map fun u => (u.size : Int)).sum = ((t.size : Nat) : Int) := by
        rw [t.size_eq, Tm.sizes_eq]
        have c : ∀ l : List Tm, (l.map fun u => (u.size : Int)).sum = (((l.map Tm.size).sum : Nat) : Int) := by
          intro l
          induction l with
          | nil => rfl
          | cons x l ih => rw [List.map_cons, List.sum_cons, ih, List.map_cons, List.sum_cons]; omega
        rw [c]
        omega
      show Q (.int (1 + (t.subs.map fun u => (u.size : Int)).sum)) H2
      rw [e]
      exact w H2 (s1.trans s2)
theorem ok_l_size (T : Txt K mg a) : FnOk P w K mg base CX0 13 a.f_l_size a.fd_l_size ["_law_term_here"] (sp_l_size K) := ok_l_size_n T 12
end
section
variable {P : Program} {w : World} {K : PySem.W.Frag} {mg : Str → Option Value} {base : Heap} {a : Ad}
def sp_l_depth (K : PySem.W.Frag) : Sp := spDepth K 12

theorem ok_l_depth_n (T : Txt K mg a) : ∀ n, FnOk P w K mg base CX0 (n + 1) a.f_l_depth a.fd_l_depth ["_law_term_here"] (spDepth K n)
  | 0 => fn_false
  | n + 1 => by
    have G_l_operands := ok_l_operands (P := P) (w := w) (base := base) T
    have G_l_depth := ok_l_depth_n T n
    refine T.F_l_depth.ok sc_l_depth (fun vs H Q E h => ?_) (fun cdv A outer s H vs Q E hr h => ?_)
    · obtain ⟨v, t, rfl, _⟩ := h
      rfl
    obtain ⟨v, t, rfl, ht, ar, w⟩ := h
    refine ⟨_, (pss_one (ps_ret (pe_op op_add pe_int (pe_callBK (MxD.cr_maxD rfl) (by rfl) T.n_max (by decide +kernel) (pa_cons (pe_lc (own := [("_law_one", 1)]) (g := gName 1) rfl sc_l_depth.nd (pi_list (pe_call G_l_operands (hr.mono (by first | decide | omega)) (by rfl) T.g_l_operands T.F_l_operands.kp T.b_l_operands .nil pass0 (pa_cons (pv 0) pa_nil))) (blkOk_by (own := [("_law_one", 1)]) (N := ["_law_term_here", "_law_one"]) (sc := defScope s_l_depth) (by decide +kernel)) (fun _ _ _ _ _ => (pg_name (i := 1) sc_l_depth.nd rfl (Or.inl rfl))) (fun _ _ _ _ _ => pts_nil) (fun _ _ _ _ _ => (pe_call G_l_depth (hr.mono (by first | decide | omega)) (by rfl) T.g_l_depth T.F_l_depth.kp T.b_l_depth .nil pass0 (pa_cons (pv 1) pa_nil)))) pa_nil) (pk_cons pe_int pk_nil))))), ?_⟩
    refine ⟨v, rfl, v, t, n, rfl, ht, ar.ok, fun l H1 xs s1 nl hl hA => ?_⟩
    refine ⟨l, rfl, ⟨_, SqL.of hl⟩, fun D nD => ?_⟩
    have xl : xs.length ≤ 60 := by rw [hA.1]; exact ar.len
    refine lc_list (K := K) (a := l) (xs := xs) (fun i H2 => Same H1 H2 ∧ H2 D = some (.lst (((t.subs.take i).map fun u => (u.depth : Int)).map V.int))) ⟨Same.new nD, upd_same⟩ (fun i H2 _ z => SqL.of (z.1 _ _ hl)) ?_ ?_
    · rintro i x H2 hx ⟨s2, hD⟩
      obtain ⟨u, hu, tu⟩ := hA.at hx
      have il : i < xs.length := (List.getElem?_eq_some_iff.mp hx).1
      refine ⟨rfl, tYes_if ?_⟩
      refine ⟨x, rfl, ?_⟩
      cases n with
      | zero => exact tu.elim
      | succ n =>
        refine ⟨x, u, rfl, tu.same s2, ar.sub (List.mem_of_getElem? hu), fun H3 s3 => ⟨_, s3 _ _ hD, ?_, fun b o e => ?_, ?_⟩⟩
        · rw [List.length_map, List.length_map, List.length_take]; exact szl (by omega)
        · rw [upd_ne (ne_of_none e nD)]; exact s3 _ _ (s2 _ _ e)
        · rw [upd_same, List.take_add_one, hu, List.map_append, List.map_append]; rfl
    · rintro H2 ⟨s2, hD⟩
      rw [hA.1, List.take_length] at hD
      have e0 : t.subs.map (fun u => (u.depth : Int)) = [] → (1 : Int) + 0 = ((t.depth : Nat) : Int) := fun z => by
        have := List.map_eq_nil_iff.mp z
        rw [t.depth_eq, this, Tm.depths]
        rfl
      have e1 : ∀ m ∈ t.subs.map (fun u => (u.depth : Int)), (∀ k ∈ t.subs.map (fun u => (u.depth : Int)), k ≤ m) → (1 : Int) + m = ((t.depth : Nat) : Int) := fun m hm hk => by
        have z := depths_max hm hk
        rw [t.depth_eq]
        omega
      refine ⟨D, t.subs.map (fun u => (u.depth : Int)), .int 0, rfl, rfl, SqL.of hD, fun z => ⟨1, 0, rfl, rfl, ?_⟩, fun m hm hk => ⟨1, m, rfl, rfl, ?_⟩⟩
      · show Q (.int (1 + 0)) H2
        rw [e0 z]
        exact w H2 (s1.trans s2)
      · show Q (.int (1 + m)) H2
        rw [e1 m hm hk]
        exact w H2 (s1.trans s2)
theorem ok_l_depth (T : Txt K mg a) : FnOk P w K mg base CX0 13 a.f_l_depth a.fd_l_depth ["_law_term_here"] (sp_l_depth K) := ok_l_depth_n T 12
end
section
variable {P : Program} {w : World} {K : PySem.W.Frag} {mg : Str → Option Value} {base : Heap} {a : Ad}
def sp_l_shares (K : PySem.W.Frag) : Sp := fun vs H Q _ => ∃ (r : Addr) (q : Nat), vs = [.ref r, .int (q : Nat)] ∧ Rg H r ∧ q ≤ 6 ∧ ∀ l H' xs ws, Kp r H H' → Rg H' r → H' l = some (.lst xs) → l ≠ r → Frs K H' xs ws 40 → ws.length = q → ShW ws → Q (.ref l) H'
theorem sum_pos : ∀ {is : List Int}, (∀ i ∈ is, 1 ≤ i ∧ i ≤ 4) → (is.length : Int) ≤ is.sum ∧ is.sum ≤ 4 * (is.length : Int)
  | [], _ => by simp
  | i :: is, h => by
    have h1 := h i List.mem_cons_self
    have h2 := sum_pos (is := is) fun j hj => h j (List.mem_cons_of_mem _ hj)
    rw [List.sum_cons, List.length_cons]
    omega

theorem ok_l_shares (T : Txt K mg a) : FnOk P w K mg base CX0 2 a.f_l_shares a.fd_l_shares ["_law_rng", "_law_quantity"] (sp_l_shares K) := by
  have G_l_reduce := ok_l_reduce (P := P) (w := w) (base := base) T
  have G_l_draw := ok_l_draw (P := P) (w := w) (base := base) T
  refine T.F_l_shares.ok sc_l_shares (fun vs H Q E h => ?_) (fun cdv A outer s H vs Q E hr h => ?_)
  · obtain ⟨r, q, rfl, _⟩ := h
    rfl
  · obtain ⟨r, q, rfl, R, hq, w⟩ := h
    refine ⟨_, (pss_cons (ps_set (i := 2) sc_l_shares.nd rfl (by first | exact Or.inl rfl | exact Or.inr rfl) (pe_lc (own := [("_law_k", 3)]) (g := gName 3) rfl sc_l_shares.nd (pi_range1 (by rfl) T.n_range (pa_cons (pv 1) pa_nil)) (blkOk_by (own := [("_law_k", 3)]) (N := ["_law_rng", "_law_quantity", "_law_weights", "_law_k", "_law_one"]) (sc := defScope s_l_shares) (by decide +kernel)) (fun _ _ _ _ _ => (pg_name (i := 3) sc_l_shares.nd rfl (Or.inl rfl))) (fun _ _ _ _ _ => pts_nil) (fun _ _ _ _ _ => (pe_op op_add pe_int (pe_call G_l_draw (hr.mono (by first | decide | omega)) (by rfl) T.g_l_draw T.F_l_draw.kp T.b_l_draw .nil pass0 (pa_cons (pv 0) (pa_cons pe_int pa_nil)))))))
          (pss_one (ps_ret (pe_lc (own := [("_law_one", 4)]) (g := gName 4) rfl sc_l_shares.nd (pi_list (pv 2)) (blkOk_by (own := [("_law_one", 4)]) (N := ["_law_rng", "_law_quantity", "_law_weights", "_law_k", "_law_one"]) (sc := defScope s_l_shares) (by decide +kernel)) (fun _ _ _ _ _ => (pg_name (i := 4) sc_l_shares.nd rfl (Or.inl rfl))) (fun _ _ _ _ _ => pts_nil) (fun _ _ _ _ _ => (pe_call G_l_reduce (hr.mono (by first | decide | omega)) (by rfl) T.g_l_reduce T.F_l_reduce.kp T.b_l_reduce .nil pass0 (pa_cons (pv 4) (pa_cons (pe_callB (crSumK (K := K) rfl rfl) (by rfl) T.n_sum (by decide +kernel) (pa_cons (pv 2) pa_nil)) pa_nil)))))))), ?_⟩
    refine ⟨.int (q : Nat), rfl, (q : Int), rfl, by omega, by omega, fun D nD => ?_⟩
    have Dr : D ≠ r := R.ne nD
    refine ⟨fun i m H3 => i + m = q ∧ Kp r H H3 ∧ Rg H3 r ∧ ∃ is : List Int, H3 D = some (.lst (is.map V.int)) ∧ is.length = i ∧ ∀ j ∈ is, 1 ≤ j ∧ j ≤ 4, ⟨q, by omega, Kp.of (Same.new nD), R.same (Same.new nD), [], upd_same, rfl, fun j hj => by cases hj⟩, fun i m H3 hW => ?_⟩
    obtain ⟨em, k3, R3, is, hD, hl, hi⟩ := hW
    by_cases hlt : i < q
    · refine .inr ⟨(show i < ((q : Nat) : Int).toNat by omega), fun H4 => Kp r H H4 ∧ Rg H4 r ∧ ∃ is : List Int, H4 D = some (.lst (is.map V.int)) ∧ is.length = i + 1 ∧ ∀ j ∈ is, 1 ≤ j ∧ j ≤ 4, fun H4 hN => ⟨m - 1, by omega, by omega, hN⟩, fun v H4 hy => ?_⟩
      obtain ⟨rfl, rfl⟩ := hy
      refine ⟨rfl, tYes_if ?_⟩
      refine ⟨.ref r, rfl, r, 4, rfl, R3, by decide, by decide, fun x H5 x0 x1 k5 R5 => ?_⟩
      refine ⟨1, x, rfl, rfl, _, k5.1 _ _ Dr hD, by rw [List.length_map]; exact szl (by omega), (k3.trans k5).put (H := H) nD Dr, R.put nD (k3.trans k5) R5, is ++ [1 + x], ?_, ?_, ?_⟩
      · rw [upd_same, List.map_append]; rfl
      · rw [List.length_append, hl]; rfl
      · intro j hj
        rcases List.mem_append.mp hj with h | h
        · exact hi j h
        · rw [List.mem_singleton.mp h]; omega
    · have ei : i = q := by omega
      subst ei
      refine .inl ⟨(show ((i : Nat) : Int).toNat ≤ i by omega), ?_⟩
      have sp := sum_pos hi
      refine ⟨.ref D, rfl, D, rfl, ⟨_, SqL.of hD⟩, fun L nL => ?_⟩
      have Lr : L ≠ r := R3.ne nL
      refine lc_list (K := K) (a := D) (xs := is.map V.int) (fun j H4 => Same H3 H4 ∧ ∃ xs, H4 L = some (.lst xs) ∧ Frs K H4 xs ((is.take j).map fun z => red z is.sum) 40) ⟨Same.new nL, [], upd_same, Frs.nil'⟩ (fun j H4 _ z => SqL.of (z.1 _ _ hD)) ?_ ?_
      · rintro j y H4 hy ⟨s4, xs, hL, hF⟩
        obtain ⟨z, hz, rfl⟩ : ∃ z, is[j]? = some z ∧ y = V.int z := by
          rw [List.getElem?_map] at hy
          cases e : is[j]? with
          | none => rw [e] at hy; cases hy
          | some z => rw [e] at hy; exact ⟨z, rfl, (Option.some.inj hy).symm⟩
        have zb := hi z (List.mem_of_getElem? hz)
        have jl : j < is.length := (List.getElem?_eq_some_iff.mp hz).1
        have B : (2 : Nat) ^ 40 = 1099511627776 := by decide
        refine ⟨rfl, tYes_if ?_⟩
        refine ⟨.int z, rfl, .ref D, rfl, D, is, rfl, SqL.of (s4 _ _ hD), z, is.sum, rfl, by omega, Nat.lt_of_lt_of_le (show is.sum.natAbs < 2 ^ 40 by omega) (Nat.pow_le_pow_right (by decide) (by decide)), fun p np => ?_⟩
        have sp4 := Same.new (o := .tup [.int (red z is.sum).1, .int (red z is.sum).2]) np
        have fz := red_B (K := K) (H := H4) (p := p) (n := z) (d := is.sum) (B := 40) (by omega) (by omega) (by omega)
        have hL4 := sp4 _ _ hL
        have xl : xs.length = j := by rw [hF.1, List.length_map, List.length_take]; omega
        refine ⟨xs, hL4, by rw [xl]; exact szl (by omega), fun b o e => ?_, xs ++ [.ref p], upd_same, ?_⟩
        · rw [upd_ne (ne_of_none e nL)]; exact sp4 _ _ (s4 _ _ e)
        · rw [tk_more hz]
          exact ((hF.same sp4).app' (Frs.one' fz)).put' hL4
      · rintro H4 ⟨s4, xs, hL, hF⟩
        rw [List.length_map, List.take_length] at hF
        refine w L H4 xs _ (k3.trans (Kp.of s4)) (R3.same s4) hL Lr hF (by rw [List.length_map, hl]) ⟨is, hi, by omega, rfl⟩
end
section
variable {P : Program} {w : World} {K : PySem.W.Frag} {mg : Str → Option Value} {base : Heap} {a : Ad}
def spTerm (K : PySem.W.Frag) : Nat → Sp
  | 0 => fun _ _ _ _ => False
  | n + 1 => fun vs H Q _ => ∃ (r nl : Addr) (ss : List Str) (d : Int), vs = [.ref r, .ref nl, .int d] ∧ Rg H r ∧ nl ≠ r ∧ SqL K H nl (ss.map V.str) ∧ 0 < ss.length ∧ ss.length ≤ 60 ∧ d ≤ (n : Int) + 1 ∧ ∀ v H' t, Kp r H H' → Rg H' r → TmAt K H' (n + 1) v t → Good ss (n + 1) t → Q v H'
def sp_l_term (K : PySem.W.Frag) : Sp := spTerm K 4
/-- terms drawn one by one into the list at D -/
def Drawn1 (K : PySem.W.Frag) (ss : List Str) (n : Nat) (r D : Addr) (H0 : Hp) (i : Nat) (H3 : Hp) : Prop := Kp r H0 H3 ∧ Rg H3 r ∧ ∃ xs ts, H3 D = some (.lst xs) ∧ xs.length = i ∧ All2 (TmAt K H3 n) xs ts ∧ ∀ t ∈ ts, Good ss n t
theorem Drawn1.start {K : PySem.W.Frag} {ss : List Str} {n : Nat} {r D : Addr} {H0 : Hp} (R : Rg H0 r) (nD : H0 D = none) : Drawn1 K ss n r D H0 0 (upd H0 D (.lst [])) :=
  ⟨Kp.of (Same.new nD), R.same (Same.new nD), [], [], upd_same, rfl, All2.nil, fun t h => by cases h⟩
theorem Drawn1.more {K : PySem.W.Frag} {ss : List Str} {n : Nat} {r D : Addr} {H0 H3 H5 : Hp} {i : Nat} {x : V} {t : Tm} (R : Rg H0 r) (nD : H0 D = none) (hi : i < 1000) (h : Drawn1 K ss n r D H0 i H3) (k5 : Kp r H3 H5) (R5 : Rg H5 r) (ht : TmAt K H5 n x t) (hg : Good ss n t) :
    ∃ acc, H5 D = some (.lst acc) ∧ acc.length < sizeLine ∧ Drawn1 K ss n r D H0 (i + 1) (upd H5 D (.lst (acc ++ [x]))) := by
  obtain ⟨k3, R3, xs, ts, hD, hl, hA, hG⟩ := h
  have Dr : D ≠ r := R.ne nD
  have hD5 := k5.1 _ _ Dr hD
  refine ⟨xs, hD5, by rw [hl]; exact szl (by omega), (k3.trans k5).put (H := H0) nD Dr, R.put nD (k3.trans k5) R5, xs ++ [x], ts ++ [t], upd_same, by rw [List.length_append, hl]; rfl, ?_, fun u hu => ?_⟩
  · exact ((hA.mono fun _ _ z => z.kp R3 k5).snoc ht).mono fun _ _ z => z.put hD5
  · rcases List.mem_append.mp hu with z | z
    · exact hG u z
    · rw [List.mem_singleton.mp z]; exact hg

theorem ok_l_term_n (T : Txt K mg a) : ∀ n, FnOk P w K mg base CX0 (n + 4) a.f_l_term a.fd_l_term ["_law_rng", "_law_names_here", "_law_deep"] (spTerm K n)
  | 0 => fn_false
  | n + 1 => by
    have G_l_draw := ok_l_draw (P := P) (w := w) (base := base) T
    have G_l_choice := ok_l_choice (P := P) (w := w) (base := base) T
    have G_l_small := ok_l_small (P := P) (w := w) (base := base) T
    have G_l_shares := ok_l_shares (P := P) (w := w) (base := base) T
    have G_l_term := ok_l_term_n T n
    refine T.F_l_term.ok sc_l_term (fun vs H Q E h => ?_) (fun cdv A outer s H vs Q E hr h => ?_)
    · obtain ⟨r, nl, ss, d, rfl, _⟩ := h
      rfl
    obtain ⟨r, nl, ss, d, rfl, R, nlr, hS, s0, s1, hd, w⟩ := h
    refine ⟨_, (pss_cons (ps_set (i := 3) sc_l_term.nd rfl (by first | exact Or.inl rfl | exact Or.inr rfl) (pe_call G_l_draw (hr.mono (by first | decide | omega)) (by rfl) T.g_l_draw T.F_l_draw.kp T.b_l_draw .nil pass0 (pa_cons (pv 0) (pa_cons pe_int pa_nil))))
      (pss_cons (ps_if (PW.pt (pw_or (pt_cmpR op_lt (pv 2) pe_int (nomark _)) (pw_or1 (pt_cmpR op_eq (pv 3) pe_int (nomark _))))) (pss_one (ps_ret (pe_tup (pa_cons pe_str (pa_cons (pe_call G_l_choice (hr.mono (by first | decide | omega)) (by rfl) T.g_l_choice T.F_l_choice.kp T.b_l_choice .nil pass0 (pa_cons (pv 0) (pa_cons (pv 1) pa_nil))) pa_nil))))) pss_nil)
      (pss_cons (ps_if (pt_cmpR op_lt (pv 3) pe_int (nomark _)) (pss_one (ps_ret (pe_tup (pa_cons pe_str (pa_cons (pe_call G_l_term (hr.mono (by first | decide | omega)) (by rfl) T.g_l_term T.F_l_term.kp T.b_l_term .nil pass0 (pa_cons (pv 0) (pa_cons (pv 1) (pa_cons (pe_op op_sub (pv 2) pe_int) pa_nil)))) (pa_cons (pe_call G_l_small (hr.mono (by first | decide | omega)) (by rfl) T.g_l_small T.F_l_small.kp T.b_l_small .nil pass0 (pa_cons (pv 0) pa_nil)) pa_nil)))))) pss_nil)
      (pss_cons (ps_if (pt_cmpR op_eq (pv 3) pe_int (nomark _)) (pss_one (ps_ret (pe_callTy call_tuple_of (by rfl) T.n_tuple (by decide +kernel) (pa_cons (pe_op op_cat (pe_lst (pa_cons pe_str pa_nil)) (pe_lc (own := [("_law_k", 6)]) (g := gName 6) rfl sc_l_term.nd (pi_range1 (by rfl) T.n_range (pa_cons pe_int pa_nil)) (blkOk_by (own := [("_law_k", 6)]) (N := ["_law_rng", "_law_names_here", "_law_deep", "_law_pick", "_law_quantity", "_law_parts", "_law_k", "_law_share", "_law_one"]) (sc := defScope s_l_term) (by decide +kernel)) (fun _ _ _ _ _ => (pg_name (i := 6) sc_l_term.nd rfl (Or.inl rfl))) (fun _ _ _ _ _ => pts_nil) (fun _ _ _ _ _ => (pe_call G_l_term (hr.mono (by first | decide | omega)) (by rfl) T.g_l_term T.F_l_term.kp T.b_l_term .nil pass0 (pa_cons (pv 0) (pa_cons (pv 1) (pa_cons (pe_op op_sub (pv 2) pe_int) pa_nil))))))) pa_nil)))) pss_nil)
      (pss_cons (ps_set (i := 4) sc_l_term.nd rfl (by first | exact Or.inl rfl | exact Or.inr rfl) (pe_op op_add pe_int (pe_call G_l_draw (hr.mono (by first | decide | omega)) (by rfl) T.g_l_draw T.F_l_draw.kp T.b_l_draw .nil pass0 (pa_cons (pv 0) (pa_cons pe_int pa_nil)))))
      (pss_cons (ps_setLc (i := 5) (own := [("_law_k", 6)]) (g := gName 6) rfl sc_l_term.nd rfl rfl (sw_true rfl rfl rfl (by decide +kernel)) (pi_range1 (by rfl) T.n_range (pa_cons (pv 4) pa_nil)) (blkOk_by (own := [("_law_k", 6)]) (N := ["_law_rng", "_law_names_here", "_law_deep", "_law_pick", "_law_quantity", "_law_parts", "_law_k", "_law_share", "_law_one"]) (sc := defScope s_l_term) (by decide +kernel)) (fun _ _ _ _ _ => (pg_name (i := 6) sc_l_term.nd rfl (Or.inl rfl))) (fun _ _ _ _ _ => pts_nil) (fun _ _ _ _ _ => (pe_call G_l_term (hr.mono (by first | decide | omega)) (by rfl) T.g_l_term T.F_l_term.kp T.b_l_term .nil pass0 (pa_cons (pv 0) (pa_cons (pv 1) (pa_cons (pe_op op_sub (pv 2) pe_int) pa_nil))))))
      (pss_cons (ps_if (pt_cmpR op_eq (pv 3) pe_int (nomark _)) (pss_one (ps_ret (pe_callTy call_tuple_of (by rfl) T.n_tuple (by decide +kernel) (pa_cons (pe_op op_cat (pe_lst (pa_cons pe_str pa_nil)) (pe_lc (own := [("_law_share", 7), ("_law_one", 8)]) (g := gTup K 2 (gCons (gName 7) (gCons (gName 8) gNil))) rfl sc_l_term.nd (RZ.pi_zipA (by rfl) T.n_zip (pa_cons (pe_call G_l_shares (hr.mono (by first | decide | omega)) (by rfl) T.g_l_shares T.F_l_shares.kp T.b_l_shares .nil pass0 (pa_cons (pv 0) (pa_cons (pv 4) pa_nil))) (pa_cons (pv 5) pa_nil))) (blkOk_by (own := [("_law_share", 7), ("_law_one", 8)]) (N := ["_law_rng", "_law_names_here", "_law_deep", "_law_pick", "_law_quantity", "_law_parts", "_law_k", "_law_share", "_law_one"]) (sc := defScope s_l_term) (by decide +kernel)) (fun _ _ _ _ _ => (pg_tup rfl (pgs_cons (pg_name (i := 7) sc_l_term.nd rfl (Or.inl rfl)) (pgs_cons (pg_name (i := 8) sc_l_term.nd rfl (Or.inl rfl)) pgs_nil)))) (fun _ _ _ _ _ => pts_nil) (fun _ _ _ _ _ => (pe_tup (pa_cons (pv 7) (pa_cons (pv 8) pa_nil)))))) pa_nil)))) pss_nil)
      (pss_one (ps_ret (pe_callTy call_tuple_of (by rfl) T.n_tuple (by decide +kernel) (pa_cons (pe_op op_cat (pe_lst (pa_cons (pe_ix ix_list (pe_lst (pa_cons pe_str (pa_cons pe_str (pa_cons pe_str pa_nil)))) (pe_op op_sub (pv 3) pe_int) (fun _ _ => rfl)) pa_nil)) (pv 5)) pa_nil))))))))))), ?_⟩
    refine ⟨.ref r, rfl, r, 9, rfl, R, by decide, by decide, fun pk H1 p0 p1 k1 R1 => ?_⟩
    have hS1 := k1.L nlr hS
    -- an event
    have leaf : ∀ (Q' : VK), (∀ v H', Q v H' → Q' v H') → (tTup (tCons (tC (V.str "event")) (tCons (tCall (sp_l_choice K) [] E0 (tCons (tVar 0) (tCons (tVar 1) tNil))) tNil))) [some (.ref r), some (.ref nl), some (.int d), some (.int pk), none, none, none, none, none] H1 Q' := by
      intro Q' hQ
      refine ⟨.ref r, rfl, .ref nl, rfl, r, .ref nl, _, rfl, R1, .inl ⟨nl, rfl, nlr, .inl hS1⟩, by rw [List.length_map]; exact s0, by rw [List.length_map]; omega, fun x hx H2 k2 R2 => ?_⟩
      obtain ⟨q, hq, rfl⟩ := List.mem_map.mp hx
      refine ⟨sz (by show 2 ≤ 100000; decide), fun p np => hQ _ _ ?_⟩
      have sp := Same.new (o := .tup [.str "event", .str q]) np
      exact w _ _ (.ev q) ((k1.trans k2).trans (Kp.of sp)) (R2.same sp) ⟨p, rfl, SqT.of upd_same⟩ hq
    refine ⟨.int d, rfl, d, 2, rfl, rfl, _, rfl, ite2 (fun e => iteT (leaf _ fun _ _ z => z)) (fun e => ?_)⟩
    have d2 : 2 ≤ d := by
      by_cases z : d < 2
      · exact absurd (decide_eq_true z) e
      · omega
    refine ⟨.int pk, rfl, rfl, _, rfl, ite2 (fun e0 => leaf _ fun _ _ z => z) (fun e0 => ?_)⟩
    cases n with
    | zero => exfalso; omega
    | succ n =>
      have hd1 : d - 1 ≤ (n : Int) + 1 := by omega
      refine ⟨.int pk, rfl, pk, 4, rfl, rfl, _, rfl, ite2 (fun e1 => ?_) (fun e1 => ?_)⟩
      · -- a delay
        refine ⟨.ref r, rfl, .ref nl, rfl, .int d, rfl, d, 1, rfl, rfl, r, nl, ss, d - 1, rfl, R1, nlr, hS1, s0, s1, hd1, fun v2 H2 t2 k2 R2 m2 g2 => ?_⟩
        refine ⟨.ref r, rfl, r, rfl, R2, fun v3 H3 n3 d3 k3 R3 f3 => ⟨sz (by show 3 ≤ 100000; decide), fun p np => ?_⟩⟩
        have sp := Same.new (o := .tup [.str "delay", v2, v3]) np
        refine w _ _ (.nd (.delay (n3, d3)) [t2]) (((k1.trans k2).trans k3).trans (Kp.of sp)) (R3.same sp) ⟨[v2], ⟨p, v2, v3, rfl, rfl, SqT.of upd_same, (f3.up' (by decide)).same sp⟩, All2.one ((m2.kp R2 k3).same sp)⟩ ⟨rfl, fun t ht => ?_⟩
        rw [List.mem_singleton.mp ht]; exact g2
      refine ⟨.int pk, rfl, rfl, _, rfl, ite2 (fun e2 => ?_) (fun e2 => ?_)⟩
      · -- a median
        refine ⟨sz (by show 1 ≤ 100000; decide), fun hl nhl => ?_⟩
        have sh := Same.new (o := .lst [.str "median"]) nhl
        have R1' := R1.same sh
        have hlr : hl ≠ r := R1.ne nhl
        refine ⟨3, rfl, by decide, by decide, fun D nD => ?_⟩
        have hlD : hl ≠ D := ne_of_none upd_same nD
        refine ⟨fun i m H3 => i + m = 3 ∧ Drawn1 K ss (n + 1) r D (upd H1 hl (.lst [.str "median"])) i H3, ⟨3, rfl, Drawn1.start R1' nD⟩, fun i m H3 hW => ?_⟩
        obtain ⟨em, dr⟩ := hW
        by_cases hi : i < 3
        · refine .inr ⟨hi, Drawn1 K ss (n + 1) r D (upd H1 hl (.lst [.str "median"])) (i + 1), fun H4 z => ⟨m - 1, by omega, by omega, z⟩, fun v H4 hy => ?_⟩
          obtain ⟨rfl, rfl⟩ := hy
          refine ⟨rfl, tYes_if ?_⟩
          refine ⟨.ref r, rfl, .ref nl, rfl, .int d, rfl, d, 1, rfl, rfl, r, nl, ss, d - 1, rfl, dr.2.1, nlr, dr.1.L nlr (sh.seq hS1), s0, s1, hd1, fun v5 H5 t5 k5 R5 m5 g5 => ?_⟩
          exact dr.more R1' nD (by omega) k5 R5 m5 g5
        · have ei : i = 3 := by omega
          subst ei
          obtain ⟨k3, R3, xs, ts, hD, hx, hA, hG⟩ := dr
          refine .inl ⟨Nat.le_refl _, ?_⟩
          have hh := k3.1 _ _ hlr (show (upd H1 hl (.lst [.str "median"])) hl = _ from upd_same)
          refine ⟨hl, D, _, _, rfl, rfl, hh, hD, sz (by rw [hx]; show 1 + 3 ≤ 100000; decide), fun c nc => ?_⟩
          have sc := Same.new (o := .lst ([.str "median"] ++ xs)) nc
          refine ⟨c, _, rfl, .inl ⟨SqL.of upd_same, fun p np => ?_⟩⟩
          have sp := sc.trans (Same.new (o := .tup ([.str "median"] ++ xs)) np)
          exact w _ _ (.nd .median ts) (((k1.trans (Kp.of sh)).trans k3).trans (Kp.of sp)) (R3.same sp) ⟨xs, ⟨p, rfl, SqT.of upd_same⟩, hA.mono fun _ _ z => z.same sp⟩ ⟨(show ts.length = 3 by rw [← hA.1, hx]), hG⟩
      -- the parts
      refine ⟨.ref r, rfl, r, 3, rfl, R1, by decide, by decide, fun q H2 q0 q1 k2 R2 => ⟨1, q, rfl, rfl, ?_⟩⟩
      have hS2 := k2.L nlr hS1
      refine ⟨.int (1 + q), rfl, 1 + q, rfl, by omega, by omega, fun D nD => ?_⟩
      have Dr : D ≠ r := R2.ne nD
      refine ⟨fun i m H3 => i + m = (1 + q).toNat ∧ Drawn1 K ss (n + 1) r D H2 i H3, ⟨(1 + q).toNat, by omega, Drawn1.start R2 nD⟩, fun i m H3 hW => ?_⟩
      obtain ⟨em, dr⟩ := hW
      by_cases hi : i < (1 + q).toNat
      · refine .inr ⟨hi, Drawn1 K ss (n + 1) r D H2 (i + 1), fun H4 z => ⟨m - 1, by omega, by omega, z⟩, fun v H4 hy => ?_⟩
        obtain ⟨rfl, rfl⟩ := hy
        refine ⟨rfl, tYes_if ?_⟩
        refine ⟨.ref r, rfl, .ref nl, rfl, .int d, rfl, d, 1, rfl, rfl, r, nl, ss, d - 1, rfl, dr.2.1, nlr, dr.1.L nlr hS2, s0, s1, hd1, fun v5 H5 t5 k5 R5 m5 g5 => ?_⟩
        exact dr.more R2 nD (by omega) k5 R5 m5 g5
      have ei : i = (1 + q).toNat := by omega
      subst ei
      obtain ⟨k3, R3, xs, ts, hD, hx, hA, hG⟩ := dr
      have tl : ts.length = (1 + q).toNat := by rw [← hA.1, hx]
      refine .inl ⟨Nat.le_refl _, ?_⟩
      refine ⟨.int pk, rfl, rfl, _, rfl, ite2 (fun e3 => ?_) (fun e3 => ?_)⟩
      · -- a mix
        refine ⟨sz (by show 1 ≤ 100000; decide), fun hl nhl => ?_⟩
        have sh := Same.new (o := .lst [.str "mix"]) nhl
        have hlr : hl ≠ r := R3.ne nhl
        refine ⟨.ref r, rfl, .int (1 + q), rfl, r, (1 + q).toNat, by rw [show (((1 + q).toNat : Nat) : Int) = 1 + q by omega]; rfl, R3.same sh, by omega, fun sl H4 zs ws k4 R4 hsl slr hF wl sw => ?_⟩
        have k04 := k3.trans ((Kp.of sh).trans k4)
        have hD4 : H4 D = some (.lst xs) := ((Kp.of sh).trans k4).1 _ _ Dr hD
        have hh4 : H4 hl = some (.lst [.str "mix"]) := k4.1 _ _ hlr upd_same
        have hA4 := hA.mono fun _ _ z => (z.same sh).kp (R3.same sh) k4
        have zl : zs.length = xs.length := by rw [hF.1, wl, hx]
        refine ⟨.ref D, rfl, sl, D, zs, xs, rfl, .inl ⟨SqL.of hsl, SqL.of hD4, fun L nL => ?_⟩⟩
        refine ⟨fun i m H5 => i + m = xs.length ∧ Same H4 H5 ∧ ∃ ys, H5 L = some (.lst ys) ∧ ys.length = i ∧ ∀ (j : Nat) y x f, ys[j]? = some y → xs[j]? = some x → ws[j]? = some f → ∃ q wv, y = .ref q ∧ SqT K H5 q [wv, x] ∧ FrB K H5 wv f.1 f.2 40, ⟨xs.length, by omega, Same.new nL, [], upd_same, rfl, fun j y x f z => by cases z⟩, fun i m H5 hW => ?_⟩
        obtain ⟨em5, s5, ys, hL, hyl, hys⟩ := hW
        by_cases hi5 : i < xs.length
        · refine .inr ⟨⟨zs, xs, zs[i]'(by omega), xs[i], SqL.of (s5 _ _ hsl), SqL.of (s5 _ _ hD4), List.getElem?_eq_getElem _, List.getElem?_eq_getElem hi5⟩, fun H6 => Same H4 H6 ∧ ∃ ys, H6 L = some (.lst ys) ∧ ys.length = i + 1 ∧ ∀ (j : Nat) y x f, ys[j]? = some y → xs[j]? = some x → ws[j]? = some f → ∃ q wv, y = .ref q ∧ SqT K H6 q [wv, x] ∧ FrB K H6 wv f.1 f.2 40, fun H6 hN => ⟨m - 1, by omega, by omega, hN⟩, fun v H6 hy => ?_⟩
          obtain ⟨tt, u1, u2, rfl, nT, rfl, f1, f2⟩ := hy
          have hu1 := f1 _ (SqL.of (s5 _ _ hsl))
          have hu2 := f2 _ (SqL.of (s5 _ _ hD4))
          refine ⟨tt, [u1, u2], rfl, SqT.of upd_same, rfl, u1, [u2], rfl, u2, [], rfl, rfl, rfl, tYes_if ?_⟩
          refine ⟨u1, rfl, u2, rfl, sz (by show 2 ≤ 100000; decide), fun pr npr => ?_⟩
          have s6 := (Same.new (o := .tup [u1, u2]) nT).trans (Same.new (o := .tup [u1, u2]) npr)
          have hL6 := s6 _ _ hL
          refine ⟨ys, hL6, by rw [hyl]; exact szl (by omega), fun b o z => ?_, ys ++ [.ref pr], upd_same, by rw [List.length_append, hyl]; rfl, ?_⟩
          · rw [upd_ne (ne_of_none z nL)]; exact s6 _ _ (s5 _ _ z)
          · intro j y x f hy hx' hf
            have putT : ∀ {q xs}, SqT K (upd (upd H5 tt (.tup [u1, u2])) pr (.tup [u1, u2])) q xs → SqT K (upd (upd (upd H5 tt (.tup [u1, u2])) pr (.tup [u1, u2])) L (.lst (ys ++ [.ref pr]))) q xs := fun {q xs} z => by
              rcases z with (z | ⟨o, z⟩) | z
              · exact .inl (.inl (by rw [upd_ne (ne_of z hL6 (fun y => by cases y))]; exact z))
              · exact .inl (.inr ⟨o, by rw [upd_ne (ne_of z hL6 (fun y => by cases y))]; exact z⟩)
              · exact .inr z
            by_cases hj : j < ys.length
            · rw [List.getElem?_append_left hj] at hy
              obtain ⟨q, wv, e, h1, h2⟩ := hys j y x f hy hx' hf
              exact ⟨q, wv, e, putT (Same.T s6 h1), (h2.same s6).put' hL6⟩
            · have ej : j = i := by
                have := (List.getElem?_eq_some_iff.mp hy).1
                rw [List.length_append] at this
                have : j < ys.length + 1 := this
                omega
              subst ej
              rw [List.getElem?_append_right (by omega), show j - ys.length = 0 by omega] at hy
              cases hy
              rw [hu2] at hx'
              cases hx'
              exact ⟨pr, u1, rfl, putT (SqT.of upd_same), (((hF.2 j u1 f hu1 hf).same s5).same s6).put' hL6⟩
        · have e5 : i = xs.length := by omega
          refine .inl ⟨⟨zs, xs, SqL.of (s5 _ _ hsl), SqL.of (s5 _ _ hD4), .inr (by omega)⟩, ?_⟩
          refine ⟨hl, L, _, _, rfl, rfl, s5 _ _ hh4, hL, sz (by rw [hyl]; show 1 + i ≤ 100000; omega), fun c nc => ?_⟩
          have sc := Same.new (o := .lst ([.str "mix"] ++ ys)) nc
          refine ⟨c, _, rfl, .inl ⟨SqL.of upd_same, fun p np => ?_⟩⟩
          have sp := sc.trans (Same.new (o := .tup ([.str "mix"] ++ ys)) np)
          refine w _ _ (.nd (.mix ws) ts) ((((k1.trans k2).trans k04).trans (Kp.of s5)).trans (Kp.of sp)) ((R4.same s5).same sp) ⟨xs, ⟨p, ys, rfl, SqT.of upd_same, by omega, by rw [wl, hx], fun j y x f a b c => ?_⟩, hA4.mono fun _ _ z => (z.same s5).same sp⟩ ⟨⟨by omega, by omega, by omega, sw⟩, hG⟩
          obtain ⟨q', wv, e', h1, h2⟩ := hys j y x f a b c
          exact ⟨q', wv, e', Same.T sp h1, h2.same sp⟩
      · -- a max or a min
        have pk1 : 4 ≤ pk := by
          by_cases z : pk < 4
          · exact absurd (decide_eq_true z) e1
          · omega
        have pk2 : pk ≠ 8 := fun z => e2 (decide_eq_true (by rw [z]))
        have pk3 : pk ≠ 7 := fun z => e3 (decide_eq_true (by rw [z]))
        refine ⟨sz (by show 3 ≤ 100000; decide), fun ml nml => ?_⟩
        have sm := Same.new (o := .lst [.str "max", .str "min", .str "max"]) nml
        obtain ⟨x, hx0, hxm⟩ := at_int (xs := [V.str "max", V.str "min", V.str "max"]) (i := pk - 4) (by omega) (by show pk - 4 < 3; omega)
        refine ⟨.int pk, rfl, pk, 4, rfl, rfl, ml, _, pk - 4, x, rfl, rfl, SqL.of upd_same, hx0, sz (by show 1 ≤ 100000; decide), fun hl nhl => ?_⟩
        have sh := sm.trans (Same.new (o := .lst [x]) nhl)
        have hhl : (upd (upd H3 ml (.lst [.str "max", .str "min", .str "max"])) hl (.lst [x])) hl = _ := upd_same
        refine ⟨.ref D, rfl, hl, D, _, _, rfl, rfl, hhl, sh _ _ hD, sz (by rw [hx]; show 1 + (1 + q).toNat ≤ 100000; omega), fun c nc => ?_⟩
        have sc := sh.trans (Same.new (o := .lst ([x] ++ xs)) nc)
        refine ⟨c, _, rfl, .inl ⟨SqL.of upd_same, fun p np => ?_⟩⟩
        have sp := sc.trans (Same.new (o := .tup ([x] ++ xs)) np)
        have kk := ((k1.trans k2).trans k3).trans (Kp.of sp)
        have hA' := hA.mono fun _ _ z => z.same sp
        have go : x = .str "max" ∨ x = .str "min" := by
          simp only [List.mem_cons, List.not_mem_nil, or_false] at hxm
          rcases hxm with h | h | h
          · exact .inl h
          · exact .inr h
          · exact .inl h
        rcases go with rfl | rfl
        · exact w _ _ (.nd .max ts) kk (R3.same sp) ⟨xs, ⟨p, rfl, SqT.of upd_same⟩, hA'⟩ ⟨⟨by omega, by omega⟩, hG⟩
        · exact w _ _ (.nd .min ts) kk (R3.same sp) ⟨xs, ⟨p, rfl, SqT.of upd_same⟩, hA'⟩ ⟨⟨by omega, by omega⟩, hG⟩
theorem ok_l_term (T : Txt K mg a) : FnOk P w K mg base CX0 8 a.f_l_term a.fd_l_term ["_law_rng", "_law_names_here", "_law_deep"] (sp_l_term K) := ok_l_term_n T 4
end
section
variable {P : Program} {w : World} {K : PySem.W.Frag} {mg : Str → Option Value} {base : Heap} {a : Ad}
theorem ArN.up : ∀ {n : Nat} {t : Tm}, ArN n t → ArN (n + 1) t
  | 0, _, h => h.elim
  | n + 1, .ev s, h => trivial
  | n + 1, .nd k ts, h => ⟨h.1, fun t ht => (h.2 t ht).up⟩
theorem flats_app : ∀ a b : List Tm, Tm.flats (a ++ b) = Tm.flats a ++ Tm.flats b
  | [], b => rfl
  | x :: a, b => by rw [List.cons_append, Tm.flats, Tm.flats, flats_app a b, List.append_assoc]
theorem sizes_app : ∀ a b : List Tm, Tm.sizes (a ++ b) = Tm.sizes a + Tm.sizes b
  | [], b => by rw [List.nil_append, Tm.sizes]; omega
  | x :: a, b => by rw [List.cons_append, Tm.sizes, Tm.sizes, sizes_app a b]; omega
theorem sizes_rev : ∀ a : List Tm, Tm.sizes a.reverse = Tm.sizes a
  | [] => rfl
  | x :: a => by
    rw [List.reverse_cons, sizes_app, sizes_rev a, Tm.sizes, Tm.sizes, Tm.sizes]
    omega
theorem size_pos (t : Tm) : 1 ≤ t.size := by rw [t.size_eq]; omega
theorem All2.cons {R : V → Tm → Prop} {x : V} {t : Tm} {xs : List V} {ts : List Tm} (k : R x t) (h : All2 R xs ts) : All2 R (x :: xs) (t :: ts) :=
  ⟨by rw [List.length_cons, List.length_cons, h.1], fun i y u a b => by
    cases i with
    | zero => cases a; cases b; exact k
    | succ i => exact h.2 i y u a b⟩
theorem All2.uncons {R : V → Tm → Prop} {x : V} {t : Tm} {xs : List V} {ts : List Tm} (h : All2 R (x :: xs) (t :: ts)) : R x t ∧ All2 R xs ts :=
  ⟨h.2 0 x t rfl rfl, by have := h.1; simpa using this, fun i y u a b => h.2 (i + 1) y u a b⟩
theorem All2.app {R : V → Tm → Prop} : ∀ {xs ys : List V} {ts us : List Tm}, All2 R xs ts → All2 R ys us → All2 R (xs ++ ys) (ts ++ us)
  | [], _, [], _, _, b => b
  | [], _, _ :: _, _, a, _ => by have := a.1; cases this
  | _ :: _, _, [], _, a, _ => by have := a.1; cases this
  | x :: xs, _, t :: ts, _, a, b => All2.cons a.uncons.1 (All2.app a.uncons.2 b)
theorem All2.rev {R : V → Tm → Prop} : ∀ {xs : List V} {ts : List Tm}, All2 R xs ts → All2 R xs.reverse ts.reverse
  | [], [], _ => All2.nil
  | [], _ :: _, a => by have := a.1; cases this
  | _ :: _, [], a => by have := a.1; cases this
  | x :: xs, t :: ts, a => by
    rw [List.reverse_cons, List.reverse_cons]
    exact (All2.rev a.uncons.2).snoc a.uncons.1
theorem All2.last {R : V → Tm → Prop} {xs : List V} {ts : List Tm} (h : All2 R xs ts) (ne : xs ≠ []) : ∃ y us u, ts = us ++ [u] ∧ xs[xs.length - 1]? = some y ∧ All2 R xs.dropLast us ∧ R y u := by
  have e := List.dropLast_concat_getLast ne
  have nt : ts ≠ [] := fun z => by rw [z] at h; exact ne (List.length_eq_zero_iff.mp h.1)
  have et := List.dropLast_concat_getLast nt
  refine ⟨xs.getLast ne, ts.dropLast, ts.getLast nt, et.symm, ?_, ⟨by rw [List.length_dropLast, List.length_dropLast, h.1], fun i x t a b => ?_⟩, ?_⟩
  · rw [← List.getLast?_eq_getElem?, List.getLast?_eq_some_getLast ne]
  · rw [List.getElem?_dropLast] at a b
    split at a
    · split at b
      · exact h.2 i x t a b
      · cases b
    · cases a
  · refine h.2 (xs.length - 1) _ _ ?_ ?_
    · rw [← List.getLast?_eq_getElem?, List.getLast?_eq_some_getLast ne]
    · rw [h.1, ← List.getLast?_eq_getElem?, List.getLast?_eq_some_getLast nt]

def sp_l_event_names (K : PySem.W.Frag) : Sp := fun vs H Q _ => ∃ (v : V) (t : Tm) (n : Nat), vs = [v] ∧ TmAt K H n v t ∧ ArN n t ∧ t.size ≤ 60 ∧ ∀ l H', Same H H' → H l = none → H' l = some (.lst ((ded t.flat).map V.str)) → Q (.ref l) H'

theorem ok_l_event_names (T : Txt K mg a) : FnOk P w K mg base CX0 2 a.f_l_event_names a.fd_l_event_names ["_law_term_here"] (sp_l_event_names K) := by
  have G_l_operands := ok_l_operands (P := P) (w := w) (base := base) T
  refine T.F_l_event_names.ok sc_l_event_names (fun vs H Q E h => ?_) (fun cdv A outer s H vs Q E hr h => ?_)
  · obtain ⟨v, t, n, rfl, _⟩ := h
    rfl
  · obtain ⟨v, t, n, rfl, ht, ar, tz, w⟩ := h
    refine ⟨_, (pss_cons (ps_par (i := 1) (j := 2) (by rfl) sc_l_event_names.nd rfl rfl (by decide) rfl rfl (pa_cons (pe_lst pa_nil) (pa_cons (pe_lst (pa_cons (pv 0) pa_nil)) pa_nil)) (by rfl))
          (pss_cons (ps_for PassesOwn.never rfl (pi_range1 (by rfl) T.n_range (pa_cons pe_int pa_nil)) (pg_name (i := 3) sc_l_event_names.nd rfl (by first | exact Or.inl rfl | exact Or.inr rfl)) (pss_one (ps_if (pt_cmpR (NlC.op_neNil hr.units0) (pv 2) (pe_lst pa_nil) (nomark _)) (pss_cons (ps_set (i := 4) sc_l_event_names.nd rfl (by first | exact Or.inl rfl | exact Or.inr rfl) (pe_bm0 PySem.F.plainAttrs_list PySem.F.slot_list_pop PySem.F.type_list_pop mt_pop (pv 2)))
          (pss_cons (ps_if (PW.pt (pw_and (pt_cmpR op_eq (pe_ix ix_tup (pv 4) pe_int (fun _ _ => rfl)) pe_str (nomark _)) (pw_and1 (pt_cmpR op_notIn_seq (pe_ix ix_tup (pv 4) pe_int (fun _ _ => rfl)) (pv 1) (by rfl))))) (pss_one (ps_expr (pe_bm PySem.F.plainAttrs_list PySem.F.slot_list_append PySem.F.type_list_append mt_append (pv 1) (pa_cons (pe_ix ix_tup (pv 4) pe_int (fun _ _ => rfl)) pa_nil)))) pss_nil)
          (pss_one (ps_set (i := 2) sc_l_event_names.nd rfl (by first | exact Or.inl rfl | exact Or.inr rfl) (pe_op op_cat (pv 2) (pe_revL (pe_call G_l_operands (hr.mono (by first | decide | omega)) (by rfl) T.g_l_operands T.F_l_operands.kp T.b_l_operands .nil pass0 (pa_cons (pv 4) pa_nil)))))))) pss_nil)))
          (pss_one (ps_ret (pv 1))))), ?_⟩
    refine ⟨sz (by show 0 ≤ 100000; decide), fun rs nrs => ⟨v, rfl, sz (by show 1 ≤ 100000; decide), fun td ntd => ⟨_, _, rfl, ?_⟩⟩⟩
    have s0 := Same.new (o := .lst []) nrs
    have s1 := s0.trans (Same.new (o := .lst [v]) ntd)
    have rstd : rs ≠ td := ne_of_none upd_same ntd
    refine ⟨60, rfl, by decide, by decide, for_range (n := 60) (fun i σ H2 => ∃ (td : Addr) (st : List Tm) (xs : List V) (dn : List Str) (y3 y4 : Option V), σ = [some v, some (.ref rs), some (.ref td), y3, y4] ∧ Same H H2 ∧ H td = none ∧ rs ≠ td ∧ H2 td = some (.lst xs) ∧ All2 (TmAt K H2 n) xs st ∧ H2 rs = some (.lst ((ded dn).map V.str)) ∧ dn ++ Tm.flats st.reverse = t.flat ∧ Tm.sizes st ≤ 60 - i ∧ ∀ u ∈ st, ArN n u) ⟨td, [t], [v], [], none, none, rfl, s1, s0.free ntd, rstd, upd_same, All2.one (ht.same s1), by rw [upd_ne rstd]; exact upd_same, by show [] ++ (t.flat ++ []) = t.flat; simp, by rw [Tm.sizes, Tm.sizes]; omega, fun u hu => by rw [List.mem_singleton.mp hu]; exact ar⟩ ?_ ?_⟩
    · rintro i σ H2 hi ⟨td, st, xs, dn, y3, y4, rfl, s2, ntd, rstd, htd, hA, hrs, hfl, hsz, hAr⟩
      refine ⟨.ref td, rfl, sz (by show 0 ≤ 100000; decide), fun e ne => ?_⟩
      have se := Same.new (o := .lst []) ne
      have xl : xs.length ≤ 60 := by
        rw [hA.1]
        have : ∀ l : List Tm, l.length ≤ Tm.sizes l := by
          intro l
          induction l with
          | nil => exact Nat.zero_le _
          | cons a l ih => rw [Tm.sizes, List.length_cons]; have := size_pos a; omega
        have := this st
        omega
      refine ⟨td, e, xs, rfl, rfl, SqL.of (se _ _ htd), SqL.of upd_same, _, rfl, ?_⟩
      by_cases hx : xs = []
      · subst hx
        have hst : st = [] := List.length_eq_zero_iff.mp hA.1.symm
        subst hst
        refine ifF rfl ?_
        exact ⟨td, [], [], dn, _, _, rfl, s2.trans se, ntd, rstd, se _ _ htd, All2.nil, se _ _ hrs, hfl, by rw [Tm.sizes]; omega, fun u hu => by cases hu⟩
      · refine ifT (by cases xs with | nil => exact absurd rfl hx | cons a l => rfl) ?_
        obtain ⟨y, us, u, rfl, hy, hA1, hu⟩ := hA.last hx
        have hszu : Tm.sizes us + u.size ≤ 60 - i := by rw [sizes_app, Tm.sizes, Tm.sizes] at hsz; omega
        have hflu : dn ++ (u.flat ++ Tm.flats us.reverse) = t.flat := by
          rw [List.reverse_append, flats_app] at hfl
          have e : Tm.flats [u].reverse = u.flat := by show u.flat ++ [] = u.flat; simp
          rw [e] at hfl
          exact hfl
        have dl : (ded dn).length ≤ 60 := by
          have h1 := ded_len dn []
          have h1' : (ded dn).length ≤ 0 + dn.length := h1
          have h2 := flat_size t
          rw [← hflu, List.length_append] at h2
          omega
        refine ⟨.ref td, rfl, .inl ⟨rfl, _, SqL.of (se _ _ htd)⟩, td, xs, y, rfl, rfl, se _ _ htd, hy, ?_⟩
        have htd' : upd H2 e (.lst []) td = some (.lst xs) := se _ _ htd
        have s3 : Same H (upd (upd H2 e (.lst [])) td (.lst xs.dropLast)) := fun b o z => by
          rw [upd_ne (ne_of_none z ntd)]
          exact se _ _ (s2 _ _ z)
        have hA3 : All2 (TmAt K (upd (upd H2 e (.lst [])) td (.lst xs.dropLast)) n) xs.dropLast us := hA1.mono fun _ _ z => (z.same se).put htd'
        have hu3 : TmAt K (upd (upd H2 e (.lst [])) td (.lst xs.dropLast)) n y u := (hu.same se).put htd'
        have hrs3 : upd (upd H2 e (.lst [])) td (.lst xs.dropLast) rs = some (.lst ((ded dn).map V.str)) := by rw [upd_ne rstd]; exact se _ _ hrs
        have htd3 : upd (upd H2 e (.lst [])) td (.lst xs.dropLast) td = some (.lst xs.dropLast) := upd_same
        generalize upd (upd H2 e (.lst [])) td (.lst xs.dropLast) = H3 at *
        have aru : ArN n u := hAr u (List.mem_append.mpr (.inr List.mem_cons_self))
        cases n with
        | zero => exact hu3.elim
        | succ n =>
          have rest : ∀ (H4 : Hp) (dn' : List Str), Same H H4 → H4 td = some (.lst xs.dropLast) → All2 (TmAt K H4 (n + 1)) xs.dropLast us → TmAt K H4 (n + 1) y u → H4 rs = some (.lst ((ded dn').map V.str)) → dn' ++ (Tm.flats u.subs ++ Tm.flats us.reverse) = t.flat → ∀ C : V → Hp → Prop, (∀ H7 p, (∃ (st : List Tm) (zs : List V) (dn : List Str), Same H H7 ∧ H p = none ∧ rs ≠ p ∧ H7 p = some (.lst zs) ∧ All2 (TmAt K H7 (n + 1)) zs st ∧ H7 rs = some (.lst ((ded dn).map V.str)) ∧ dn ++ Tm.flats st.reverse = t.flat ∧ Tm.sizes st ≤ 60 - (i + 1) ∧ ∀ u ∈ st, ArN (n + 1) u) → C (.ref p) H7) →
              sp_l_operands K [y] H4 (fun x H1 => ∃ a xs, x = .ref a ∧ SqL K H1 a xs ∧ ∀ p, H1 p = none → rCat (.ref td) (.ref p) (upd H1 p (.lst xs.reverse)) C) E0 := by
            intro H4 dn' s4 htd4 hA4 hu4 hrs4 hfl4 C hN
            refine ⟨y, u, n, rfl, hu4, aru.ok, fun l H5 zs s5 nl hl hS => ?_⟩
            have zl : zs.length ≤ 60 := by rw [hS.1]; exact aru.len
            refine ⟨l, zs, rfl, SqL.of hl, fun p np => ?_⟩
            have s6 := s5.trans (Same.new (o := .lst zs.reverse) np)
            refine ⟨td, p, xs.dropLast, zs.reverse, rfl, rfl, s6 _ _ htd4, upd_same, ?_, fun q nq => ?_⟩
            · rw [List.length_dropLast, List.length_reverse]; exact sz (by omega)
            have s7 := s6.trans (Same.new (o := .lst (xs.dropLast ++ zs.reverse)) nq)
            refine hN _ _ ⟨us ++ u.subs.reverse, xs.dropLast ++ zs.reverse, dn', s4.trans s7, s4.free (s6.free nq), ne_of_none (s6 _ _ hrs4) nq, upd_same, ?_, s7 _ _ hrs4, ?_, ?_, fun z hz => ?_⟩
            · refine (hA4.mono fun _ _ z => z.same s7).app (hS.rev.mono fun _ _ z => ?_)
              exact (z.up.same (Same.new (o := .lst zs.reverse) np)).same (Same.new nq)
            · rw [List.reverse_append, List.reverse_reverse, flats_app]; exact hfl4
            · rw [sizes_app, sizes_rev]
              rw [u.size_eq] at hszu
              omega
            · rcases List.mem_append.mp hz with h | h
              · exact hAr z (List.mem_append.mpr (.inl h))
              · exact (aru.sub (List.mem_reverse.mp h)).up
          cases u with
          | ev q =>
            obtain ⟨p, rfl, hp⟩ := id hu3
            have hf : Tm.flats (Tm.ev q).subs = [] := rfl
            refine ⟨.ref p, rfl, p, _, 0, _, rfl, rfl, hp, rfl, rfl, _, rfl, ifT (decide_eq_true rfl) ?_⟩
            refine ⟨.ref p, rfl, p, _, 1, _, rfl, rfl, hp, rfl, .ref rs, rfl, rs, _, rfl, .inl (SqL.of hrs3), rfl, flat_strs _, _, rfl, ?_⟩
            show (if (!inV (.str q) _) = true then _ else _)
            rw [in_strs]
            have ea : ded (dn ++ [q]) = addS (ded dn) q := by rw [ded_app]; rfl
            have hfl4 : (dn ++ [q]) ++ (Tm.flats (Tm.ev q).subs ++ Tm.flats us.reverse) = t.flat := by
              rw [hf, ← hflu, List.nil_append, List.append_assoc]
              rfl
            by_cases hm : q ∈ ded dn
            · refine ifF (by rw [decide_eq_true hm]; rfl) ?_
              refine ⟨.ref td, rfl, .ref p, rfl, ?_⟩
              exact rest H3 (dn ++ [q]) s3 htd3 hA3 hu3 (by rw [ea, add_old hm]; exact hrs3) hfl4 _ fun H7 p h => by
                obtain ⟨st, zs, dn, h⟩ := h
                exact ⟨p, st, zs, dn, _, _, rfl, h⟩
            · refine ifT (by rw [decide_eq_false hm]; rfl) ?_
              refine ⟨.ref rs, rfl, .inl ⟨rfl, _, SqL.of hrs3⟩, .ref p, rfl, p, _, 1, _, rfl, rfl, hp, rfl, rs, _, _, rfl, rfl, hrs3, ?_, ?_⟩
              · rw [List.length_map]; exact szl (by omega)
              refine ⟨.ref td, rfl, .ref p, rfl, ?_⟩
              refine rest (upd H3 rs (.lst ((ded dn).map V.str ++ [.str q]))) (dn ++ [q]) (fun b o z => by rw [upd_ne (ne_of_none z nrs)]; exact s3 _ _ z) (by rw [upd_ne rstd.symm]; exact htd3) (hA3.mono fun _ _ z => z.put hrs3) (TmAt.put hrs3 hu3) (by rw [upd_same, ea, add_new hm, List.map_append]; rfl) hfl4 _ ?_
              rintro H7 p ⟨st, zs, dn, h⟩
              exact ⟨p, st, zs, dn, _, _, rfl, h⟩
          | nd k ts =>
            have hd : ∃ p ys, y = .ref p ∧ SqT K H3 p (.str (kdS k) :: ys) := by
              obtain ⟨xs, hN, _⟩ := hu3
              cases k with
              | delay f => obtain ⟨p, x, fv, _, e, hp, _⟩ := hN; exact ⟨p, _, e, hp⟩
              | max => obtain ⟨p, e, hp⟩ := hN; exact ⟨p, _, e, hp⟩
              | min => obtain ⟨p, e, hp⟩ := hN; exact ⟨p, _, e, hp⟩
              | median => obtain ⟨p, e, hp⟩ := hN; exact ⟨p, _, e, hp⟩
              | mix ws => obtain ⟨p, ys, e, hp, _⟩ := hN; exact ⟨p, _, e, hp⟩
            have ne : decide (kdS k = ("event" : Str)) = false := by
              cases k with
              | delay f => exact (show decide (("delay" : Str) = "event") = false by decide +kernel)
              | max => exact (show decide (("max" : Str) = "event") = false by decide +kernel)
              | min => exact (show decide (("min" : Str) = "event") = false by decide +kernel)
              | median => exact (show decide (("median" : Str) = "event") = false by decide +kernel)
              | mix ws => exact (show decide (("mix" : Str) = "event") = false by decide +kernel)
            obtain ⟨p, ys, rfl, hp⟩ := hd
            refine ⟨.ref p, rfl, p, _, 0, _, rfl, rfl, hp, atI_nat (j := 0) rfl, rfl, _, rfl, ifF (str_no ne) ?_⟩
            refine ⟨.ref td, rfl, .ref p, rfl, ?_⟩
            exact rest H3 dn s3 htd3 hA3 hu3 hrs3 (by rw [← hflu, Tm.flat]; rfl) _ fun H7 p h => by
              obtain ⟨st, zs, dn, h⟩ := h
              exact ⟨p, st, zs, dn, _, _, rfl, h⟩
    · rintro σ H2 ⟨td, st, xs, dn, y3, y4, rfl, s2, ntd, rstd, htd, hA, hrs, hfl, hsz, hAr⟩
      have hst : st = [] := by
        cases st with
        | nil => rfl
        | cons a l => rw [Tm.sizes] at hsz; have := size_pos a; omega
      subst hst
      have e : dn = t.flat := by rw [← hfl]; show dn = dn ++ []; simp
      rw [e] at hrs
      exact ⟨.ref rs, rfl, w rs H2 s2 nrs hrs⟩
end
section
variable {P : Program} {w : World} {K : PySem.W.Frag} {mg : Str → Option Value} {base : Heap} {a : Ad}
def sp_p_law (K : PySem.W.Frag) : Sp := fun vs H Q _ => ∃ (b : Addr) (ns : List Int), vs = [.ref b] ∧ SqL K H b (ns.map V.int) ∧ ns.length ≤ 63 ∧ ∀ H', Q (.bl true) H'
theorem Eqd.strs {K : PySem.W.Frag} {H : Hp} {a b : Addr} {ss : List Str} (h1 : SqL K H a (ss.map V.str)) (h2 : SqL K H b (ss.map V.str)) (l : ss.length ≤ 100000) : Eqd K H 1 (.ref a) (.ref b) :=
  Eqd.lst (n := 0) h1 h2 rfl (by rw [List.length_map]; exact l) fun i u v hu hv => by
    rw [hu] at hv
    cases hv
    rw [List.getElem?_map] at hu
    cases e : ss[i]? with
    | none => rw [e] at hu; cases hu
    | some q => rw [e] at hu; cases hu; exact Eqd.atom rfl

theorem ok_p_law (T : Txt K mg a) : FnOk P w K mg base CX0 22 a.f_p_law a.fd_p_law ["_law_script"] (sp_p_law K) := by
  have G_l_source := ok_l_source (P := P) (w := w) (base := base) T
  have G_l_term := ok_l_term (P := P) (w := w) (base := base) T
  have G_l_names := ok_l_names (P := P) (w := w) (base := base) T
  have G_l_equal := ok_l_equal (P := P) (w := w) (base := base) T
  have G_p_event_names := ok_p_event_names (P := P) (w := w) (base := base) T
  have G_l_draw := ok_l_draw (P := P) (w := w) (base := base) T
  have G_p_term_size := ok_p_term_size (P := P) (w := w) (base := base) T
  have G_p_term_depth := ok_p_term_depth (P := P) (w := w) (base := base) T
  have G_l_size := ok_l_size (P := P) (w := w) (base := base) T
  have G_l_depth := ok_l_depth (P := P) (w := w) (base := base) T
  have G_l_event_names := ok_l_event_names (P := P) (w := w) (base := base) T
  refine T.F_p_law.ok sc_p_law (fun vs H Q E h => ?_) (fun cdv A outer s H vs Q E hr h => ?_)
  · obtain ⟨b, ns, rfl, _⟩ := h
    rfl
  · obtain ⟨b, ns, rfl, hS, hlen, w⟩ := h
    refine ⟨_, (pss_cons (ps_set (i := 1) sc_p_law.nd rfl (by first | exact Or.inl rfl | exact Or.inr rfl) (pe_call G_l_source (hr.mono (by first | decide | omega)) (by rfl) T.g_l_source T.F_l_source.kp T.b_l_source .nil pass0 (pa_cons (pv 0) pa_nil)))
          (pss_cons (ps_for PassesOwn.never rfl (pi_range1 (by rfl) T.n_range (pa_cons pe_int pa_nil)) (pg_name (i := 2) sc_p_law.nd rfl (by first | exact Or.inl rfl | exact Or.inr rfl)) (pss_cons (ps_set (i := 3) sc_p_law.nd rfl (by first | exact Or.inl rfl | exact Or.inr rfl) (pe_call G_l_term (hr.mono (by first | decide | omega)) (by rfl) T.g_l_term T.F_l_term.kp T.b_l_term .nil pass0 (pa_cons (pv 1) (pa_cons (pe_call G_l_names (hr.mono (by first | decide | omega)) (by rfl) T.g_l_names T.F_l_names.kp T.b_l_names .nil pass0 (pa_cons (pv 1) (pa_cons pe_int pa_nil))) (pa_cons (pe_op op_add pe_int (pe_call G_l_draw (hr.mono (by first | decide | omega)) (by rfl) T.g_l_draw T.F_l_draw.kp T.b_l_draw .nil pass0 (pa_cons (pv 1) (pa_cons pe_int pa_nil)))) pa_nil)))))
          (pss_cons (ps_if (pt_not (pt_val (pe_call G_l_equal (hr.mono (by first | decide | omega)) (by rfl) T.g_l_equal T.F_l_equal.kp T.b_l_equal .nil pass0 (pa_cons (pe_lst (pa_cons (pe_call G_p_term_size (hr.mono (by first | decide | omega)) (by rfl) T.g_p_term_size T.F_p_term_size.kp T.b_p_term_size .nil pass0 (pa_cons (pv 3) pa_nil)) (pa_cons (pe_call G_p_term_depth (hr.mono (by first | decide | omega)) (by rfl) T.g_p_term_depth T.F_p_term_depth.kp T.b_p_term_depth .nil pass0 (pa_cons (pv 3) pa_nil)) pa_nil))) (pa_cons (pe_lst (pa_cons (pe_call G_l_size (hr.mono (by first | decide | omega)) (by rfl) T.g_l_size T.F_l_size.kp T.b_l_size .nil pass0 (pa_cons (pv 3) pa_nil)) (pa_cons (pe_call G_l_depth (hr.mono (by first | decide | omega)) (by rfl) T.g_l_depth T.F_l_depth.kp T.b_l_depth .nil pass0 (pa_cons (pv 3) pa_nil)) pa_nil))) pa_nil))))) (pss_one (ps_ret pe_bl)) pss_nil)
          (pss_one (ps_for PassesOwn.never rfl (pi_range1 (by rfl) T.n_range (pa_cons pe_int pa_nil)) (pg_name (i := 4) sc_p_law.nd rfl (by first | exact Or.inl rfl | exact Or.inr rfl)) (pss_cons (ps_set (i := 5) sc_p_law.nd rfl (by first | exact Or.inl rfl | exact Or.inr rfl) (pe_call G_p_event_names (hr.mono (by first | decide | omega)) (by rfl) T.g_p_event_names T.F_p_event_names.kp T.b_p_event_names .nil pass0 (pa_cons (pv 3) pa_nil)))
          (pss_cons (ps_if (pt_not (pt_val (pe_call G_l_equal (hr.mono (by first | decide | omega)) (by rfl) T.g_l_equal T.F_l_equal.kp T.b_l_equal .nil pass0 (pa_cons (pv 5) (pa_cons (pe_call G_l_event_names (hr.mono (by first | decide | omega)) (by rfl) T.g_l_event_names T.F_l_event_names.kp T.b_l_event_names .nil pass0 (pa_cons (pv 3) pa_nil)) pa_nil))))) (pss_one (ps_ret pe_bl)) pss_nil)
          (pss_cons (ps_expr (pe_bm0 PySem.F.plainAttrs_list PySem.F.slot_list_reverse PySem.F.type_list_reverse mt_reverse (pv 5)))
          (pss_one (ps_expr (pe_bm PySem.F.plainAttrs_list PySem.F.slot_list_append PySem.F.type_list_append mt_append (pv 5) (pa_cons pe_str pa_nil))))))))))))
          (pss_one (ps_ret pe_bl)))), ?_⟩
    refine ⟨.ref b, rfl, b, ns, rfl, hS, hlen, fun H0 r s0 nr R0 => ?_⟩
    refine ⟨6, rfl, by decide, by decide, for_range (n := 6) (fun _ σ H' => ∃ y2 y3 y4 y5, σ = [some (.ref b), some (.ref r), y2, y3, y4, y5] ∧ Rg H' r) ⟨none, none, none, none, rfl, R0⟩ ?_ ?_⟩
    · rintro i σ H1 hi ⟨y2, y3, y4, y5, rfl, R1⟩
      refine ⟨.ref r, rfl, .ref r, rfl, r, 3, rfl, R1, by decide, by decide, fun nl H2 ss k2 R2 hnl nlr ssl nd nm => ?_⟩
      refine ⟨.ref r, rfl, r, 4, rfl, R2, by decide, by decide, fun d H3 d0 d1 k3 R3 => ⟨1, d, rfl, rfl, ?_⟩⟩
      refine ⟨r, nl, ss, 1 + d, rfl, R3, nlr, k3.L nlr (SqL.of hnl), by omega, by omega, by show 1 + d ≤ (3 : Int) + 1; omega, fun v H4 t k4 R4 ht hg => ?_⟩
      have ar := (hg.le (m := 12) (by decide)).arN
      have tz : t.size ≤ 40 := hg.size
      have fl := flat_size t
      have ht12 := ht.le (m := 12) (by decide)
      refine ⟨v, rfl, v, t, rfl, ht12, ar, fun H5 s5 => ⟨v, rfl, v, t, rfl, ht12.same s5, ar, fun H6 s6 => ⟨sz (by show 2 ≤ 100000; decide), fun la nla => ?_⟩⟩⟩
      have s6' := s5.trans (s6.trans (Same.new (o := .lst [.int (t.size : Nat), .int (t.depth : Nat)]) nla))
      refine ⟨v, rfl, v, t, rfl, ht12.same s6', ar, fun H7 s7 => ⟨v, rfl, v, t, rfl, (ht12.same s6').same s7, ar, fun H8 s8 => ⟨sz (by show 2 ≤ 100000; decide), fun lb nlb => ?_⟩⟩⟩
      have s8' := s7.trans (s8.trans (Same.new (o := .lst [.int (t.size : Nat), .int (t.depth : Nat)]) nlb))
      refine ⟨.ref la, .ref lb, rfl, Eqd.mono (Eqd.lst (n := 0) (SqL.of (s8' _ _ upd_same)) (SqL.of upd_same) rfl (by show 2 ≤ 100000; decide) (all2_cons (Eqd.atom rfl) (all2_cons (Eqd.atom rfl) all2_nil))) (by decide), fun H9 s9 => ⟨true, rfl, iteF ?_⟩⟩
      have sA := s6'.trans (s8'.trans s9)
      refine ⟨2, rfl, by decide, by decide, for_range (n := 2) (fun _ σ H' => ∃ y2 y4 y5, σ = [some (.ref b), some (.ref r), y2, some v, y4, y5] ∧ Rg H' r ∧ TmAt K H' 12 v t) ⟨_, _, _, rfl, R4.same sA, ht12.same sA⟩ ?_ ?_⟩
      · rintro j σ HA hj ⟨y2, y4, y5, rfl, RA, htA⟩
        refine ⟨v, rfl, v, t, rfl, htA, ar, by omega, fun l1 HB sB nl1 hl1 => ?_⟩
        refine ⟨.ref l1, rfl, v, rfl, v, t, 12, rfl, htA.same sB, ar, by omega, fun l2 HC sC nl2 hl2 => ?_⟩
        have dl : (ded t.flat).length ≤ 60 := by
          have h1 : (ded t.flat).length ≤ 0 + t.flat.length := ded_len t.flat []
          omega
        refine ⟨.ref l1, .ref l2, rfl, Eqd.mono (Eqd.strs (SqL.of (sC _ _ hl1)) (SqL.of hl2) (by omega)) (by decide), fun HD sD => ⟨true, rfl, iteF ?_⟩⟩
        have hl1D : HD l1 = some (.lst ((ded t.flat).map V.str)) := sD _ _ (sC _ _ hl1)
        have RD := RA.same (sB.trans (sC.trans sD))
        have htD := htA.same (sB.trans (sC.trans sD))
        refine ⟨.ref l1, rfl, .inl ⟨rfl, _, SqL.of hl1D⟩, l1, _, rfl, rfl, hl1D, ?_⟩
        refine ⟨.ref l1, rfl, .inl ⟨rfl, _, SqL.of upd_same⟩, l1, _, _, rfl, rfl, upd_same, ?_, ?_⟩
        · rw [List.length_reverse, List.length_map]; exact szl (by omega)
        · have kD := Kp.of (r := r) (sB.trans (sC.trans sD))
          refine ⟨_, _, _, rfl, ?_, ?_⟩
          · have z : Rg (upd HD l1 (.lst ((ded t.flat).map V.str).reverse)) r := RA.put nl1 kD RD
            refine RA.put nl1 (Kp.put (H := HA) nl1 (RA.ne nl1) kD) z
          · exact TmAt.put upd_same (TmAt.put hl1D htD)
      · rintro σ HA ⟨y2, y4, y5, rfl, RA, htA⟩
        exact ⟨_, _, _, _, rfl, RA⟩
    · rintro σ H1 ⟨y2, y3, y4, y5, rfl, R1⟩
      exact w H1
end
theorem all_mk {l : PySem.W.OpenLaw} {w : World} {K : PySem.W.Frag} {h : Heap} {mg : Str → Option Value} {fa : Addr} (X : K.In h) (G : h.Ns mainGlobals mg) (hfa : mg "law" = some (.ref fa))
    {od0 an0 : Option Addr} {sl0 : Array (Option Value)} {oc0 kV0 dc0 pm0 cd0 ct0 : Value} {f0 : Addr}
    {od1 an1 : Option Addr} {sl1 : Array (Option Value)} {oc1 kV1 dc1 pm1 cd1 ct1 : Value} {f1 : Addr}
    {od2 an2 : Option Addr} {sl2 : Array (Option Value)} {oc2 kV2 dc2 pm2 cd2 ct2 : Value} {f2 : Addr}
    {od3 an3 : Option Addr} {sl3 : Array (Option Value)} {oc3 kV3 dc3 pm3 cd3 ct3 : Value} {f3 : Addr}
    {od4 an4 : Option Addr} {sl4 : Array (Option Value)} {oc4 kV4 dc4 pm4 cd4 ct4 : Value} {f4 : Addr}
    {od5 an5 : Option Addr} {sl5 : Array (Option Value)} {oc5 kV5 dc5 pm5 cd5 ct5 : Value} {f5 : Addr}
    {od6 an6 : Option Addr} {sl6 : Array (Option Value)} {oc6 kV6 dc6 pm6 cd6 ct6 : Value} {f6 : Addr}
    {od7 an7 : Option Addr} {sl7 : Array (Option Value)} {oc7 kV7 dc7 pm7 cd7 ct7 : Value} {f7 : Addr}
    {od8 an8 : Option Addr} {sl8 : Array (Option Value)} {oc8 kV8 dc8 pm8 cd8 ct8 : Value} {f8 : Addr}
    {od9 an9 : Option Addr} {sl9 : Array (Option Value)} {oc9 kV9 dc9 pm9 cd9 ct9 : Value} {f9 : Addr}
    {od10 an10 : Option Addr} {sl10 : Array (Option Value)} {oc10 kV10 dc10 pm10 cd10 ct10 : Value} {f10 : Addr}
    {od11 an11 : Option Addr} {sl11 : Array (Option Value)} {oc11 kV11 dc11 pm11 cd11 ct11 : Value} {f11 : Addr}
    {od12 an12 : Option Addr} {sl12 : Array (Option Value)} {oc12 kV12 dc12 pm12 cd12 ct12 : Value} {f12 : Addr}
    {od13 an13 : Option Addr} {sl13 : Array (Option Value)} {oc13 kV13 dc13 pm13 cd13 ct13 : Value} {f13 : Addr}
    {od14 an14 : Option Addr} {sl14 : Array (Option Value)} {oc14 kV14 dc14 pm14 cd14 ct14 : Value} {f14 : Addr}
    {od15 an15 : Option Addr} {sl15 : Array (Option Value)} {oc15 kV15 dc15 pm15 cd15 ct15 : Value} {f15 : Addr}
    {od16 an16 : Option Addr} {sl16 : Array (Option Value)} {oc16 kV16 dc16 pm16 cd16 ct16 : Value} {f16 : Addr}
    {od17 an17 : Option Addr} {sl17 : Array (Option Value)} {oc17 kV17 dc17 pm17 cd17 ct17 : Value} {f17 : Addr}
    {od18 an18 : Option Addr} {sl18 : Array (Option Value)} {oc18 kV18 dc18 pm18 cd18 ct18 : Value} {f18 : Addr}
    {od19 an19 : Option Addr} {sl19 : Array (Option Value)} {oc19 kV19 dc19 pm19 cd19 ct19 : Value} {f19 : Addr}
    {od20 an20 : Option Addr} {sl20 : Array (Option Value)} {oc20 kV20 dc20 pm20 cd20 ct20 : Value} {f20 : Addr}
    (a0 : PySem.W.nsIn K mainGlobals "subterms" = some (some (.ref f0)))
    (l0 : K.lookup f0 = some ⟨oc0, od0, .func (PySem.W.fnOf "subterms" "subterms" (defArgs s_p_subterms) (defBody s_p_subterms) (defScope s_p_subterms) .none kV0 dc0 pm0 an0 cd0 ct0), sl0⟩) (c0 : PySem.W.codeIn K cd0 "subterms" = true) (k0 : PySem.W.keepIn K (.ref f0) = true)
    (a1 : PySem.W.nsIn K mainGlobals "term_size" = some (some (.ref f1)))
    (l1 : K.lookup f1 = some ⟨oc1, od1, .func (PySem.W.fnOf "term_size" "term_size" (defArgs s_p_term_size) (defBody s_p_term_size) (defScope s_p_term_size) .none kV1 dc1 pm1 an1 cd1 ct1), sl1⟩) (c1 : PySem.W.codeIn K cd1 "term_size" = true) (k1 : PySem.W.keepIn K (.ref f1) = true)
    (a2 : PySem.W.nsIn K mainGlobals "term_depth" = some (some (.ref f2)))
    (l2 : K.lookup f2 = some ⟨oc2, od2, .func (PySem.W.fnOf "term_depth" "term_depth" (defArgs s_p_term_depth) (defBody s_p_term_depth) (defScope s_p_term_depth) .none kV2 dc2 pm2 an2 cd2 ct2), sl2⟩) (c2 : PySem.W.codeIn K cd2 "term_depth" = true) (k2 : PySem.W.keepIn K (.ref f2) = true)
    (a3 : PySem.W.nsIn K mainGlobals "event_names" = some (some (.ref f3)))
    (l3 : K.lookup f3 = some ⟨oc3, od3, .func (PySem.W.fnOf "event_names" "event_names" (defArgs s_p_event_names) (defBody s_p_event_names) (defScope s_p_event_names) .none kV3 dc3 pm3 an3 cd3 ct3), sl3⟩) (c3 : PySem.W.codeIn K cd3 "event_names" = true) (k3 : PySem.W.keepIn K (.ref f3) = true)
    (a4 : PySem.W.nsIn K mainGlobals "_law_source" = some (some (.ref f4)))
    (l4 : K.lookup f4 = some ⟨oc4, od4, .func (PySem.W.fnOf "_law_source" "_law_source" (defArgs s_l_source) (defBody s_l_source) (defScope s_l_source) .none kV4 dc4 pm4 an4 cd4 ct4), sl4⟩) (c4 : PySem.W.codeIn K cd4 "_law_source" = true) (k4 : PySem.W.keepIn K (.ref f4) = true)
    (a5 : PySem.W.nsIn K mainGlobals "_law_draw" = some (some (.ref f5)))
    (l5 : K.lookup f5 = some ⟨oc5, od5, .func (PySem.W.fnOf "_law_draw" "_law_draw" (defArgs s_l_draw) (defBody s_l_draw) (defScope s_l_draw) .none kV5 dc5 pm5 an5 cd5 ct5), sl5⟩) (c5 : PySem.W.codeIn K cd5 "_law_draw" = true) (k5 : PySem.W.keepIn K (.ref f5) = true)
    (a6 : PySem.W.nsIn K mainGlobals "_law_choice" = some (some (.ref f6)))
    (l6 : K.lookup f6 = some ⟨oc6, od6, .func (PySem.W.fnOf "_law_choice" "_law_choice" (defArgs s_l_choice) (defBody s_l_choice) (defScope s_l_choice) .none kV6 dc6 pm6 an6 cd6 ct6), sl6⟩) (c6 : PySem.W.codeIn K cd6 "_law_choice" = true) (k6 : PySem.W.keepIn K (.ref f6) = true)
    (a7 : PySem.W.nsIn K mainGlobals "_law_equal" = some (some (.ref f7)))
    (l7 : K.lookup f7 = some ⟨oc7, od7, .func (PySem.W.fnOf "_law_equal" "_law_equal" (defArgs s_l_equal) (defBody s_l_equal) (defScope s_l_equal) .none kV7 dc7 pm7 an7 cd7 ct7), sl7⟩) (c7 : PySem.W.codeIn K cd7 "_law_equal" = true) (k7 : PySem.W.keepIn K (.ref f7) = true)
    (a8 : PySem.W.nsIn K mainGlobals "_law_reduce" = some (some (.ref f8)))
    (l8 : K.lookup f8 = some ⟨oc8, od8, .func (PySem.W.fnOf "_law_reduce" "_law_reduce" (defArgs s_l_reduce) (defBody s_l_reduce) (defScope s_l_reduce) .none kV8 dc8 pm8 an8 cd8 ct8), sl8⟩) (c8 : PySem.W.codeIn K cd8 "_law_reduce" = true) (k8 : PySem.W.keepIn K (.ref f8) = true)
    (a9 : PySem.W.nsIn K mainGlobals "_law_small" = some (some (.ref f9)))
    (l9 : K.lookup f9 = some ⟨oc9, od9, .func (PySem.W.fnOf "_law_small" "_law_small" (defArgs s_l_small) (defBody s_l_small) (defScope s_l_small) .none kV9 dc9 pm9 an9 cd9 ct9), sl9⟩) (c9 : PySem.W.codeIn K cd9 "_law_small" = true) (k9 : PySem.W.keepIn K (.ref f9) = true)
    (a10 : PySem.W.nsIn K mainGlobals "_law_letters" = some (some (.ref f10)))
    (l10 : K.lookup f10 = some ⟨oc10, od10, .func (PySem.W.fnOf "_law_letters" "_law_letters" (defArgs s_l_letters) (defBody s_l_letters) (defScope s_l_letters) .none kV10 dc10 pm10 an10 cd10 ct10), sl10⟩) (c10 : PySem.W.codeIn K cd10 "_law_letters" = true) (k10 : PySem.W.keepIn K (.ref f10) = true)
    (a11 : PySem.W.nsIn K mainGlobals "_law_is_name" = some (some (.ref f11)))
    (l11 : K.lookup f11 = some ⟨oc11, od11, .func (PySem.W.fnOf "_law_is_name" "_law_is_name" (defArgs s_l_is_name) (defBody s_l_is_name) (defScope s_l_is_name) .none kV11 dc11 pm11 an11 cd11 ct11), sl11⟩) (c11 : PySem.W.codeIn K cd11 "_law_is_name" = true) (k11 : PySem.W.keepIn K (.ref f11) = true)
    (a12 : PySem.W.nsIn K mainGlobals "_law_plain" = some (some (.ref f12)))
    (l12 : K.lookup f12 = some ⟨oc12, od12, .func (PySem.W.fnOf "_law_plain" "_law_plain" (defArgs s_l_plain) (defBody s_l_plain) (defScope s_l_plain) .none kV12 dc12 pm12 an12 cd12 ct12), sl12⟩) (c12 : PySem.W.codeIn K cd12 "_law_plain" = true) (k12 : PySem.W.keepIn K (.ref f12) = true)
    (a13 : PySem.W.nsIn K mainGlobals "_law_names" = some (some (.ref f13)))
    (l13 : K.lookup f13 = some ⟨oc13, od13, .func (PySem.W.fnOf "_law_names" "_law_names" (defArgs s_l_names) (defBody s_l_names) (defScope s_l_names) .none kV13 dc13 pm13 an13 cd13 ct13), sl13⟩) (c13 : PySem.W.codeIn K cd13 "_law_names" = true) (k13 : PySem.W.keepIn K (.ref f13) = true)
    (a14 : PySem.W.nsIn K mainGlobals "_law_operands" = some (some (.ref f14)))
    (l14 : K.lookup f14 = some ⟨oc14, od14, .func (PySem.W.fnOf "_law_operands" "_law_operands" (defArgs s_l_operands) (defBody s_l_operands) (defScope s_l_operands) .none kV14 dc14 pm14 an14 cd14 ct14), sl14⟩) (c14 : PySem.W.codeIn K cd14 "_law_operands" = true) (k14 : PySem.W.keepIn K (.ref f14) = true)
    (a15 : PySem.W.nsIn K mainGlobals "_law_size" = some (some (.ref f15)))
    (l15 : K.lookup f15 = some ⟨oc15, od15, .func (PySem.W.fnOf "_law_size" "_law_size" (defArgs s_l_size) (defBody s_l_size) (defScope s_l_size) .none kV15 dc15 pm15 an15 cd15 ct15), sl15⟩) (c15 : PySem.W.codeIn K cd15 "_law_size" = true) (k15 : PySem.W.keepIn K (.ref f15) = true)
    (a16 : PySem.W.nsIn K mainGlobals "_law_depth" = some (some (.ref f16)))
    (l16 : K.lookup f16 = some ⟨oc16, od16, .func (PySem.W.fnOf "_law_depth" "_law_depth" (defArgs s_l_depth) (defBody s_l_depth) (defScope s_l_depth) .none kV16 dc16 pm16 an16 cd16 ct16), sl16⟩) (c16 : PySem.W.codeIn K cd16 "_law_depth" = true) (k16 : PySem.W.keepIn K (.ref f16) = true)
    (a17 : PySem.W.nsIn K mainGlobals "_law_shares" = some (some (.ref f17)))
    (l17 : K.lookup f17 = some ⟨oc17, od17, .func (PySem.W.fnOf "_law_shares" "_law_shares" (defArgs s_l_shares) (defBody s_l_shares) (defScope s_l_shares) .none kV17 dc17 pm17 an17 cd17 ct17), sl17⟩) (c17 : PySem.W.codeIn K cd17 "_law_shares" = true) (k17 : PySem.W.keepIn K (.ref f17) = true)
    (a18 : PySem.W.nsIn K mainGlobals "_law_term" = some (some (.ref f18)))
    (l18 : K.lookup f18 = some ⟨oc18, od18, .func (PySem.W.fnOf "_law_term" "_law_term" (defArgs s_l_term) (defBody s_l_term) (defScope s_l_term) .none kV18 dc18 pm18 an18 cd18 ct18), sl18⟩) (c18 : PySem.W.codeIn K cd18 "_law_term" = true) (k18 : PySem.W.keepIn K (.ref f18) = true)
    (a19 : PySem.W.nsIn K mainGlobals "_law_event_names" = some (some (.ref f19)))
    (l19 : K.lookup f19 = some ⟨oc19, od19, .func (PySem.W.fnOf "_law_event_names" "_law_event_names" (defArgs s_l_event_names) (defBody s_l_event_names) (defScope s_l_event_names) .none kV19 dc19 pm19 an19 cd19 ct19), sl19⟩) (c19 : PySem.W.codeIn K cd19 "_law_event_names" = true) (k19 : PySem.W.keepIn K (.ref f19) = true)
    (a20 : PySem.W.nsIn K mainGlobals "law" = some (some (.ref f20)))
    (l20 : K.lookup f20 = some ⟨oc20, od20, .func (PySem.W.fnOf "law" "law" (defArgs s_p_law) (defBody s_p_law) (defScope s_p_law) .none kV20 dc20 pm20 an20 cd20 ct20), sl20⟩) (c20 : PySem.W.codeIn K cd20 "law" = true) (k20 : PySem.W.keepIn K (.ref f20) = true)
    (z0 : PySem.W.nsIn K mainGlobals "list" = some none)
    (z1 : PySem.W.nsIn K mainGlobals "sum" = some none)
    (z2 : PySem.W.nsIn K mainGlobals "max" = some none)
    (z3 : PySem.W.nsIn K mainGlobals "len" = some none)
    (z4 : PySem.W.nsIn K mainGlobals "isinstance" = some none)
    (z5 : PySem.W.nsIn K mainGlobals "tuple" = some none)
    (z6 : PySem.W.nsIn K mainGlobals "all" = some none)
    (z7 : PySem.W.nsIn K mainGlobals "bool" = some none)
    (z8 : PySem.W.nsIn K mainGlobals "int" = some none)
    (z9 : PySem.W.nsIn K mainGlobals "str" = some none)
    (z10 : PySem.W.nsIn K mainGlobals "zip" = some none)
    (z11 : PySem.W.nsIn K mainGlobals "abs" = some none)
    (z12 : PySem.W.nsIn K mainGlobals "set" = some none)
    (z13 : PySem.W.nsIn K mainGlobals "range" = some none)
    : ∃ fd : FuncData, (∀ (s : Shared) (v : Value), BindsTo s fd ⟨[v], []⟩ [("_law_script", v)]) ∧ ∀ base : Heap, K.In base → base.Ns mainGlobals mg → FnOk l.prog w K mg base CX0 22 fa fd ["_law_script"] (sp_p_law K) := by
  have e := hfa.symm.trans (PySem.W.mg_of X G a20)
  cases e
  have F0 := fun_mk (st := s_p_subterms) l0 c0 k0
  have b0 := F0.binds (ps := ["term"]) fun _ _ _ _ _ _ us hl => match us, hl with | [_], _ => rfl
  have F1 := fun_mk (st := s_p_term_size) l1 c1 k1
  have b1 := F1.binds (ps := ["term"]) fun _ _ _ _ _ _ us hl => match us, hl with | [_], _ => rfl
  have F2 := fun_mk (st := s_p_term_depth) l2 c2 k2
  have b2 := F2.binds (ps := ["term"]) fun _ _ _ _ _ _ us hl => match us, hl with | [_], _ => rfl
  have F3 := fun_mk (st := s_p_event_names) l3 c3 k3
  have b3 := F3.binds (ps := ["term"]) fun _ _ _ _ _ _ us hl => match us, hl with | [_], _ => rfl
  have F4 := fun_mk (st := s_l_source) l4 c4 k4
  have b4 := F4.binds (ps := ["_law_script"]) fun _ _ _ _ _ _ us hl => match us, hl with | [_], _ => rfl
  have F5 := fun_mk (st := s_l_draw) l5 c5 k5
  have b5 := F5.binds (ps := ["_law_rng", "_law_quantity"]) fun _ _ _ _ _ _ us hl => match us, hl with | [_, _], _ => rfl
  have F6 := fun_mk (st := s_l_choice) l6 c6 k6
  have b6 := F6.binds (ps := ["_law_rng", "_law_some"]) fun _ _ _ _ _ _ us hl => match us, hl with | [_, _], _ => rfl
  have F7 := fun_mk (st := s_l_equal) l7 c7 k7
  have b7 := F7.binds (ps := ["_law_result", "_law_expected"]) fun _ _ _ _ _ _ us hl => match us, hl with | [_, _], _ => rfl
  have F8 := fun_mk (st := s_l_reduce) l8 c8 k8
  have b8 := F8.binds (ps := ["_law_num", "_law_den"]) fun _ _ _ _ _ _ us hl => match us, hl with | [_, _], _ => rfl
  have F9 := fun_mk (st := s_l_small) l9 c9 k9
  have b9 := F9.binds (ps := ["_law_rng"]) fun _ _ _ _ _ _ us hl => match us, hl with | [_], _ => rfl
  have F10 := fun_mk (st := s_l_letters) l10 c10 k10
  have b10 := F10.binds (ps := []) fun _ _ _ _ _ _ us hl => match us, hl with | [], _ => rfl
  have F11 := fun_mk (st := s_l_is_name) l11 c11 k11
  have b11 := F11.binds (ps := ["_law_text"]) fun _ _ _ _ _ _ us hl => match us, hl with | [_], _ => rfl
  have F12 := fun_mk (st := s_l_plain) l12 c12 k12
  have b12 := F12.binds (ps := ["_law_names_here"]) fun _ _ _ _ _ _ us hl => match us, hl with | [_], _ => rfl
  have F13 := fun_mk (st := s_l_names) l13 c13 k13
  have b13 := F13.binds (ps := ["_law_rng", "_law_quantity"]) fun _ _ _ _ _ _ us hl => match us, hl with | [_, _], _ => rfl
  have F14 := fun_mk (st := s_l_operands) l14 c14 k14
  have b14 := F14.binds (ps := ["_law_term_here"]) fun _ _ _ _ _ _ us hl => match us, hl with | [_], _ => rfl
  have F15 := fun_mk (st := s_l_size) l15 c15 k15
  have b15 := F15.binds (ps := ["_law_term_here"]) fun _ _ _ _ _ _ us hl => match us, hl with | [_], _ => rfl
  have F16 := fun_mk (st := s_l_depth) l16 c16 k16
  have b16 := F16.binds (ps := ["_law_term_here"]) fun _ _ _ _ _ _ us hl => match us, hl with | [_], _ => rfl
  have F17 := fun_mk (st := s_l_shares) l17 c17 k17
  have b17 := F17.binds (ps := ["_law_rng", "_law_quantity"]) fun _ _ _ _ _ _ us hl => match us, hl with | [_, _], _ => rfl
  have F18 := fun_mk (st := s_l_term) l18 c18 k18
  have b18 := F18.binds (ps := ["_law_rng", "_law_names_here", "_law_deep"]) fun _ _ _ _ _ _ us hl => match us, hl with | [_, _, _], _ => rfl
  have F19 := fun_mk (st := s_l_event_names) l19 c19 k19
  have b19 := F19.binds (ps := ["_law_term_here"]) fun _ _ _ _ _ _ us hl => match us, hl with | [_], _ => rfl
  have F20 := fun_mk (st := s_p_law) l20 c20 k20
  have b20 := F20.binds (ps := ["_law_script"]) fun _ _ _ _ _ _ us hl => match us, hl with | [_], _ => rfl
  let A : Ad := { f_p_subterms := f0, fd_p_subterms := PySem.W.fnOf "subterms" "subterms" (defArgs s_p_subterms) (defBody s_p_subterms) (defScope s_p_subterms) .none kV0 dc0 pm0 an0 cd0 ct0, f_p_term_size := f1, fd_p_term_size := PySem.W.fnOf "term_size" "term_size" (defArgs s_p_term_size) (defBody s_p_term_size) (defScope s_p_term_size) .none kV1 dc1 pm1 an1 cd1 ct1, f_p_term_depth := f2, fd_p_term_depth := PySem.W.fnOf "term_depth" "term_depth" (defArgs s_p_term_depth) (defBody s_p_term_depth) (defScope s_p_term_depth) .none kV2 dc2 pm2 an2 cd2 ct2, f_p_event_names := f3, fd_p_event_names := PySem.W.fnOf "event_names" "event_names" (defArgs s_p_event_names) (defBody s_p_event_names) (defScope s_p_event_names) .none kV3 dc3 pm3 an3 cd3 ct3, f_l_source := f4, fd_l_source := PySem.W.fnOf "_law_source" "_law_source" (defArgs s_l_source) (defBody s_l_source) (defScope s_l_source) .none kV4 dc4 pm4 an4 cd4 ct4, f_l_draw := f5, fd_l_draw := PySem.W.fnOf "_law_draw" "_law_draw" (defArgs s_l_draw) (defBody s_l_draw) (defScope s_l_draw) .none kV5 dc5 pm5 an5 cd5 ct5, f_l_choice := f6, fd_l_choice := PySem.W.fnOf "_law_choice" "_law_choice" (defArgs s_l_choice) (defBody s_l_choice) (defScope s_l_choice) .none kV6 dc6 pm6 an6 cd6 ct6, f_l_equal := f7, fd_l_equal := PySem.W.fnOf "_law_equal" "_law_equal" (defArgs s_l_equal) (defBody s_l_equal) (defScope s_l_equal) .none kV7 dc7 pm7 an7 cd7 ct7, f_l_reduce := f8, fd_l_reduce := PySem.W.fnOf "_law_reduce" "_law_reduce" (defArgs s_l_reduce) (defBody s_l_reduce) (defScope s_l_reduce) .none kV8 dc8 pm8 an8 cd8 ct8, f_l_small := f9, fd_l_small := PySem.W.fnOf "_law_small" "_law_small" (defArgs s_l_small) (defBody s_l_small) (defScope s_l_small) .none kV9 dc9 pm9 an9 cd9 ct9, f_l_letters := f10, fd_l_letters := PySem.W.fnOf "_law_letters" "_law_letters" (defArgs s_l_letters) (defBody s_l_letters) (defScope s_l_letters) .none kV10 dc10 pm10 an10 cd10 ct10, f_l_is_name := f11, fd_l_is_name := PySem.W.fnOf "_law_is_name" "_law_is_name" (defArgs s_l_is_name) (defBody s_l_is_name) (defScope s_l_is_name) .none kV11 dc11 pm11 an11 cd11 ct11, f_l_plain := f12, fd_l_plain := PySem.W.fnOf "_law_plain" "_law_plain" (defArgs s_l_plain) (defBody s_l_plain) (defScope s_l_plain) .none kV12 dc12 pm12 an12 cd12 ct12, f_l_names := f13, fd_l_names := PySem.W.fnOf "_law_names" "_law_names" (defArgs s_l_names) (defBody s_l_names) (defScope s_l_names) .none kV13 dc13 pm13 an13 cd13 ct13, f_l_operands := f14, fd_l_operands := PySem.W.fnOf "_law_operands" "_law_operands" (defArgs s_l_operands) (defBody s_l_operands) (defScope s_l_operands) .none kV14 dc14 pm14 an14 cd14 ct14, f_l_size := f15, fd_l_size := PySem.W.fnOf "_law_size" "_law_size" (defArgs s_l_size) (defBody s_l_size) (defScope s_l_size) .none kV15 dc15 pm15 an15 cd15 ct15, f_l_depth := f16, fd_l_depth := PySem.W.fnOf "_law_depth" "_law_depth" (defArgs s_l_depth) (defBody s_l_depth) (defScope s_l_depth) .none kV16 dc16 pm16 an16 cd16 ct16, f_l_shares := f17, fd_l_shares := PySem.W.fnOf "_law_shares" "_law_shares" (defArgs s_l_shares) (defBody s_l_shares) (defScope s_l_shares) .none kV17 dc17 pm17 an17 cd17 ct17, f_l_term := f18, fd_l_term := PySem.W.fnOf "_law_term" "_law_term" (defArgs s_l_term) (defBody s_l_term) (defScope s_l_term) .none kV18 dc18 pm18 an18 cd18 ct18, f_l_event_names := f19, fd_l_event_names := PySem.W.fnOf "_law_event_names" "_law_event_names" (defArgs s_l_event_names) (defBody s_l_event_names) (defScope s_l_event_names) .none kV19 dc19 pm19 an19 cd19 ct19, f_p_law := fa, fd_p_law := PySem.W.fnOf "law" "law" (defArgs s_p_law) (defBody s_p_law) (defScope s_p_law) .none kV20 dc20 pm20 an20 cd20 ct20 }
  have T : Txt K mg A := { F_p_subterms := F0, g_p_subterms := PySem.W.mg_of X G a0, b_p_subterms := b0, F_p_term_size := F1, g_p_term_size := PySem.W.mg_of X G a1, b_p_term_size := b1, F_p_term_depth := F2, g_p_term_depth := PySem.W.mg_of X G a2, b_p_term_depth := b2, F_p_event_names := F3, g_p_event_names := PySem.W.mg_of X G a3, b_p_event_names := b3, F_l_source := F4, g_l_source := PySem.W.mg_of X G a4, b_l_source := b4, F_l_draw := F5, g_l_draw := PySem.W.mg_of X G a5, b_l_draw := b5, F_l_choice := F6, g_l_choice := PySem.W.mg_of X G a6, b_l_choice := b6, F_l_equal := F7, g_l_equal := PySem.W.mg_of X G a7, b_l_equal := b7, F_l_reduce := F8, g_l_reduce := PySem.W.mg_of X G a8, b_l_reduce := b8, F_l_small := F9, g_l_small := PySem.W.mg_of X G a9, b_l_small := b9, F_l_letters := F10, g_l_letters := PySem.W.mg_of X G a10, b_l_letters := b10, F_l_is_name := F11, g_l_is_name := PySem.W.mg_of X G a11, b_l_is_name := b11, F_l_plain := F12, g_l_plain := PySem.W.mg_of X G a12, b_l_plain := b12, F_l_names := F13, g_l_names := PySem.W.mg_of X G a13, b_l_names := b13, F_l_operands := F14, g_l_operands := PySem.W.mg_of X G a14, b_l_operands := b14, F_l_size := F15, g_l_size := PySem.W.mg_of X G a15, b_l_size := b15, F_l_depth := F16, g_l_depth := PySem.W.mg_of X G a16, b_l_depth := b16, F_l_shares := F17, g_l_shares := PySem.W.mg_of X G a17, b_l_shares := b17, F_l_term := F18, g_l_term := PySem.W.mg_of X G a18, b_l_term := b18, F_l_event_names := F19, g_l_event_names := PySem.W.mg_of X G a19, b_l_event_names := b19, F_p_law := F20, g_p_law := PySem.W.mg_of X G a20, b_p_law := b20, n_list := PySem.W.mg_none_of X G z0, n_sum := PySem.W.mg_none_of X G z1, n_max := PySem.W.mg_none_of X G z2, n_len := PySem.W.mg_none_of X G z3, n_isinstance := PySem.W.mg_none_of X G z4, n_tuple := PySem.W.mg_none_of X G z5, n_all := PySem.W.mg_none_of X G z6, n_bool := PySem.W.mg_none_of X G z7, n_int := PySem.W.mg_none_of X G z8, n_str := PySem.W.mg_none_of X G z9, n_zip := PySem.W.mg_none_of X G z10, n_abs := PySem.W.mg_none_of X G z11, n_set := PySem.W.mg_none_of X G z12, n_range := PySem.W.mg_none_of X G z13 }
  exact ⟨PySem.W.fnOf "law" "law" (defArgs s_p_law) (defBody s_p_law) (defScope s_p_law) .none kV20 dc20 pm20 an20 cd20 ct20, fun s v => .of_eq rfl, fun base _ _ => ok_p_law (a := A) T⟩
end Gait
open PySem PySem.W PyProof.Rows
set_option maxRecDepth 100000 in
set_option maxHeartbeats 0 in
theorem PySem.Challenge.cw_gaithold_k08_term_structure_holds : PySem.Challenge.rw_gaithold_k08_term_structure.Holds := by
  w_on; o_law; k_head; (case hw => w_witness2)
  k_fill
  refine L2.walk_of (l := PySem.Challenge.rw_gaithold_k08_term_structure) (n := 63) (k := 22) (x := "_law_script") (CX := fun _ => L2.CX0) (sp := fun w => Gait.sp_p_law _) rfl (by decide) rfl ⟨rfl, by decide, by decide⟩ (fun w h Y => PySem.W.kIn_of Y) ?F (fun _ _ a ns hl _ hS => ⟨a, ns, rfl, hS, hl, fun _ => rfl⟩) (fun _ _ _ _ _ h => h)
  case F =>
    intro w mg fa h KX G hmg
    refine' Gait.all_mk KX G hmg ?a0 ?l0 ?c0 ?k0 ?a1 ?l1 ?c1 ?k1 ?a2 ?l2 ?c2 ?k2 ?a3 ?l3 ?c3 ?k3 ?a4 ?l4 ?c4 ?k4 ?a5 ?l5 ?c5 ?k5 ?a6 ?l6 ?c6 ?k6 ?a7 ?l7 ?c7 ?k7 ?a8 ?l8 ?c8 ?k8 ?a9 ?l9 ?c9 ?k9 ?a10 ?l10 ?c10 ?k10 ?a11 ?l11 ?c11 ?k11 ?a12 ?l12 ?c12 ?k12 ?a13 ?l13 ?c13 ?k13 ?a14 ?l14 ?c14 ?k14 ?a15 ?l15 ?c15 ?k15 ?a16 ?l16 ?c16 ?k16 ?a17 ?l17 ?c17 ?k17 ?a18 ?l18 ?c18 ?k18 ?a19 ?l19 ?c19 ?k19 ?a20 ?l20 ?c20 ?k20 ?z0 ?z1 ?z2 ?z3 ?z4 ?z5 ?z6 ?z7 ?z8 ?z9 ?z10 ?z11 ?z12 ?z13
    (case a0 => k_is); (case l0 => k_is); (case c0 => k_is); (case k0 => k_is); (case a1 => k_is); (case l1 => k_is); (case c1 => k_is); (case k1 => k_is); (case a2 => k_is); (case l2 => k_is); (case c2 => k_is); (case k2 => k_is); (case a3 => k_is); (case l3 => k_is); (case c3 => k_is); (case k3 => k_is); (case a4 => k_is); (case l4 => k_is); (case c4 => k_is); (case k4 => k_is); (case a5 => k_is); (case l5 => k_is); (case c5 => k_is); (case k5 => k_is); (case a6 => k_is); (case l6 => k_is); (case c6 => k_is); (case k6 => k_is); (case a7 => k_is); (case l7 => k_is); (case c7 => k_is); (case k7 => k_is); (case a8 => k_is); (case l8 => k_is); (case c8 => k_is); (case k8 => k_is); (case a9 => k_is); (case l9 => k_is); (case c9 => k_is); (case k9 => k_is); (case a10 => k_is); (case l10 => k_is); (case c10 => k_is); (case k10 => k_is); (case a11 => k_is); (case l11 => k_is); (case c11 => k_is); (case k11 => k_is); (case a12 => k_is); (case l12 => k_is); (case c12 => k_is); (case k12 => k_is); (case a13 => k_is); (case l13 => k_is); (case c13 => k_is); (case k13 => k_is); (case a14 => k_is); (case l14 => k_is); (case c14 => k_is); (case k14 => k_is); (case a15 => k_is); (case l15 => k_is); (case c15 => k_is); (case k15 => k_is); (case a16 => k_is); (case l16 => k_is); (case c16 => k_is); (case k16 => k_is); (case a17 => k_is); (case l17 => k_is); (case c17 => k_is); (case k17 => k_is); (case a18 => k_is); (case l18 => k_is); (case c18 => k_is); (case k18 => k_is); (case a19 => k_is); (case l19 => k_is); (case c19 => k_is); (case k19 => k_is); (case a20 => k_is); (case l20 => k_is); (case c20 => k_is); (case k20 => k_is); (case z0 => k_is); (case z1 => k_is); (case z2 => k_is); (case z3 => k_is); (case z4 => k_is); (case z5 => k_is); (case z6 => k_is); (case z7 => k_is); (case z8 => k_is); (case z9 => k_is); (case z10 => k_is); (case z11 => k_is); (case z12 => k_is); (case z13 => k_is)
